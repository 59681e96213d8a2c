/- Several texts together: EntMkF, JoA, JdB, LkC, PdM, PdN. -/
import Derived.Test.YtkbaafgaaiekpaaGreatPeriodRestoresZ1
import Derived.Test.YtkbaafgaaiekpaaGreatPeriodRestoresZ14
import Derived.Test.YtkbaafgaaiekpaaGreatPeriodRestoresZ15
import Derived.Test.YtkbaafgaaiekpaaGreatPeriodRestoresZ35
import Derived.Deep.CutRange
import Derived.Deep.CutBlock
open List (getElem_toArray getElem_cons_zero getElem_cons_succ setIfInBounds_toArray set_cons_zero set_cons_succ)
open Go.Lib (hid)
namespace Go.Proofs.YtkbaafgaaiekpaaGreat.entw
open Go.RowKit mem entm
set_option linter.unusedVariables false
def RMadeF (kind : Int) (raw : List Lg) (w : World) (e : Ending) (w' : World) : Prop :=
  ∃ a cap ls, ls.Perm raw ∧ Sorted ls ∧ Only (fun _ => False) w w' ∧ (ReadsL w' a ls.length ls ∧ ∀ y, a = some y → w.heap.size ≤ y.block) ∧
    ((chk kind ls = 0 ∧ e = .returned (.tuple #[.agg #[.int .i64 kind, .slice a ls.length cap], .int .i64 0])) ∨
     (chk kind ls ≠ 0 ∧ e = .returned (.tuple #[.agg #[.int .i64 0, .slice none 0 0], .int .i64 (chk kind ls)])))
def RMF (kind amount gr : Int) (path : List Int) (w : World) (e : Ending) (w' : World) : Prop :=
  (mkNo kind amount path ≠ 0 ∧ NotMade (mkNo kind amount path) w e w') ∨ (mkNo kind amount path = 0 ∧ RMadeF kind (rawL kind amount gr path) w e w')
theorem rmf_no {kind amount gr : Int} {path : List Int} {w w' : World} {c : Int} (h : mkNo kind amount path = c) (hc : c ≠ 0) (ho : Only (fun _ => False) w w') : RMF kind amount gr path w (.returned (.tuple #[.agg #[.int .i64 0, .slice none 0 0], .int .i64 c])) w' :=
  .inl ⟨by rw [h]; exact hc, by rw [h]; exact ⟨rfl, ho⟩⟩
theorem rmf_yes {kind amount gr : Int} {path : List Int} {w w' : World} {e : Ending} (h : mkNo kind amount path = 0) (k : RMadeF kind (rawL kind amount gr path) w e w') : RMF kind amount gr path w e w' := .inr ⟨h, k⟩
set_option maxRecDepth 100000 in
set_option maxHeartbeats 20000000 in
theorem rmakef_any (kind amount gr : Int) (hg : InI gr) (a : Option Addr) (len cap : Nat) (path : List Int) (w : World) (h : ReadsI w a len path) :
    Calls Tryz.prog 28 #[.int .i64 kind, .int .i64 amount, .slice a len cap, .int .i64 gr] w (RMF kind amount gr path w) := by
  have hm := h.2.1; unfold maxLen at hm; have HL := hid h.1; have H := hid h; have HG := hid hg; obtain ⟨i0, hi, hz0, hz1, hz2⟩ := info_parts info_rleg; obtain ⟨w1, hw1⟩ : ∃ x, x = w.alloc (.cells #[.int .i64 0, .slice none 0 0] 75) := ⟨_, rfl⟩; obtain ⟨q0, hq0⟩ : ∃ x, x = w.heap.size := ⟨_, rfl⟩; have HQ0 : Hid (q0 = w.heap.size ∧ w1.heap.size = w.heap.size + 1) := hid ⟨hq0, by rw [hw1]; simp⟩; have HO1 : Hid (Only (fun _ => False) w w1) := hid (by rw [hw1]; exact (Only.refl _ _).alloc _); have HRB : Hid (∀ w', Only (fun _ => False) w1 w' → w'.cell? ⟨q0, 0, none⟩ = some (.int .i64 0) ∧ w'.cell? ⟨q0, 1, none⟩ = some (.slice none 0 0) ∧ w'.frozen? ⟨q0, 0, none⟩ = false ∧ w'.frozen? ⟨q0, 1, none⟩ = false) := hid (fun w' ho => by
    have hl : q0 < w1.heap.size := (by rw [hw1, hq0]; simp); exact ⟨ho.cell' (by rw [hw1]; exact alloc_new w _ _ q0 0 _ hq0 rfl) (fun f => f), ho.cell' (by rw [hw1]; exact alloc_new w _ _ q0 1 _ hq0 rfl) (fun f => f), (ho.frozen (p := ⟨q0, 0, none⟩) hl (fun f => f)).trans (by rw [hw1]; exact alloc_froz w _ _ q0 0 hq0), (ho.frozen (p := ⟨q0, 1, none⟩) hl (fun f => f)).trans (by rw [hw1]; exact alloc_froz w _ _ q0 1 hq0)⟩)
  clear h hg; cases hk : kindB kind with
  | false =>
    have HF : Hid (∀ w', Only (fun _ => False) w w' → RMF kind amount gr path w (.returned (.tuple #[.agg #[.int .i64 0, .slice none 0 0], .int .i64 21])) w') := hid (fun w' ho => rmf_no (by unfold mkNo; rw [if_pos hk]) (by omega) ho); have hkk := kind_cases hk; clear hk hi hz0 hz1 hz2; obtain ⟨z0, z1, f0, f1⟩ := HRB.out w1 (Only.refl _ _); have HE := hid (set_two (x := .int .i64 0) (y := .slice none 0 0) z0 z1); have HOE : Hid (Only (fun q => q = q0) w1 ((w1.setCell ⟨q0, 0, none⟩ (.int .i64 0)).setCell ⟨q0, 1, none⟩ (.slice none 0 0))) := hid ((Only.set (fun q => q = q0) _ q0 0 _ rfl).trans (Only.set (fun q => q = q0) _ q0 1 _ rfl)); rcases hkk with hk1 | ⟨hk1, hk2⟩
    · go_enter Tryz.func28, Tryz.ntmps28
      (go_upto_region 1 with fail); simp only [← hw1, ← hq0]; clear hw1 hq0; (go_wp2_with fail); refine bodyPost_ret (v := .tuple #[.agg #[.int .i64 0, .slice none 0 0], .int .i64 21]) (by simp [results, Tryz.results28, go_sem, HE.out.1, HE.out.2]) rfl (HF.out _ (HO1.out.then HOE.out (fun q hq e => by have e' : q = q0 := e; have := HQ0.out.1; omega)))
    · have hk3 : ¬ kind < 1 := (by omega); go_enter Tryz.func28, Tryz.ntmps28
      (go_upto_region 1 with fail); simp only [← hw1, ← hq0]; clear hw1 hq0; (go_wp2_with fail); refine bodyPost_ret (v := .tuple #[.agg #[.int .i64 0, .slice none 0 0], .int .i64 21]) (by simp [results, Tryz.results28, go_sem, HE.out.1, HE.out.2]) rfl (HF.out _ (HO1.out.then HOE.out (fun q hq e => by have e' : q = q0 := e; have := HQ0.out.1; omega)))
  | true =>
    have HK := hid hk; have hki := kind_in hk; obtain ⟨k1, k2⟩ := hki; have hk1' : ¬ kind < 1 := (by omega); have hk2' : ¬ 6 < kind := (by omega); clear hk; go_enter Tryz.func28, Tryz.ntmps28
    (go_upto_region 1 with fail); simp only [← hw1, ← hq0]; clear hw1 hq0; go_upto_region 3 with fail
    go_cut [10] from 28 to 43 (fun bv wx => bv = .bool (bad0 amount len) ∧ w1 = wx)
    case first =>
      clear hi hz0 hz1 hz2; by_cases a1 : amount < 1
      · have HB : Hid (bad0 amount len = true) := hid (by unfold bad0 amB; exact decide_eq_true (by omega)); (go_wp2_with fail); go_meet
        exact ⟨by rw [HB.out], rfl⟩
      · by_cases a2 : 9007199254740992 < amount
        · have HB : Hid (bad0 amount len = true) := hid (by unfold bad0 amB; exact decide_eq_true (by omega)); (go_wp2_with fail); go_meet
          exact ⟨by rw [HB.out], rfl⟩
        · by_cases a3 : (len : Int) < 1
          · have HB : Hid (bad0 amount len = true) := hid (by unfold bad0 amB; exact decide_eq_true (by omega)); (go_wp2_with fail); go_meet
            exact ⟨by rw [HB.out], rfl⟩
          · by_cases a4 : (3 : Int) < len
            · have HB : Hid (bad0 amount len = true) := hid (by unfold bad0 amB; exact decide_eq_true (by omega)); (go_wp2_with fail); go_meet
              exact ⟨by rw [HB.out], rfl⟩
            · have HB : Hid (bad0 amount len = false) := hid (by unfold bad0 amB; exact decide_eq_false (by omega)); (go_wp2_with fail); go_meet
              exact ⟨by rw [HB.out], rfl⟩
    case rest =>
      obtain ⟨rfl, hww⟩ := hcut; subst hww; have HBI := hid (bad_is (amount := amount) HK.out HL.out); obtain ⟨b0, hb0⟩ : ∃ x, bad0 amount len = x := ⟨_, rfl⟩; rw [hb0] at HBI ⊢; clear hb0; go_upto_block 0 with fail
      go_cut [10, 11, 12] from 44 to 70 (fun bv iv kv wx => bv = .bool (b0 || dupO path (min len 4)) ∧ Hid (Only (fun _ => False) w1 wx))
      case first =>
        clear hi hz0 hz1 hz2 HBI HRB; go_wp2_with fail
        go_loopw [10, 11] (fun bv iv wr => ∃ i : Nat, i ≤ len ∧ i ≤ 4 ∧ iv = .int .i64 (i : Int) ∧ bv = .bool (b0 || dupO path i) ∧ Hid (Only (fun _ => False) w1 wr)) (fun _ iv _ => 4 - (intOf iv).toNat)
        case atStart => exact ⟨0, by omega, by omega, rfl, by simp [dupO], hid (Only.refl _ _)⟩
        case round =>
          obtain ⟨i, hil, hi4, rfl, rfl, HOI⟩ := hrel; rename World => wr
          by_cases h8 : i < len ∧ i < 4
          · obtain ⟨h8, h9⟩ := h8; have j1 : (i : Int) < len := (by omega); have j2 : (i : Int) < 4 := (by omega); have j3 : (0 : Int) ≤ i := (by omega); obtain ⟨b, off, rfl, hc⟩ := H.out.2.2.2.resolve_left (by omega); have HCI : Hid (∀ k, k < len → ∀ w', Only (fun _ => False) wr w' → w'.cell? ⟨b, off + k, none⟩ = some (.int .i64 (path.getD k 0))) := hid (fun k hk w' ho => (HO1.out.trans (HOI.out.trans ho)).cell' (hc k hk) (fun f => f)); clear hc; go_wp2_with fail
            go_loopw [10, 12] (fun bv kv wx => ∃ k : Nat, k ≤ i ∧ kv = .int .i64 (k : Int) ∧ bv = .bool (b0 || dupO path i || dupI path i k) ∧ Hid (Only (fun _ => False) wr wx)) (fun _ kv _ => i - (intOf kv).toNat)
            case atStart => exact ⟨0, by omega, rfl, by simp [dupI], hid (Only.refl _ _)⟩
            case round =>
              obtain ⟨k, hki, rfl, rfl, HOX⟩ := hrel; rename World => wx
              by_cases h7 : k < i
              · have e1 := HCI.out i h8 wx HOX.out; have e2 := HCI.out k (by omega) wx HOX.out; have k1' : (k : Int) < i := (by omega); have k3' : (0 : Int) ≤ k := (by omega); have k4' : (k : Int) < len := (by omega); have HST : Hid ((b0 || dupO path i || dupI path i (k + 1)) = ((b0 || dupO path i || dupI path i k) || (path.getD i 0 == path.getD k 0))) := hid (by rw [dupI]; simp only [Bool.or_assoc]); generalize path.getD i 0 = y1 at *; generalize path.getD k 0 = y2 at *; cases hb : (b0 || dupO path i || dupI path i k) with
                | true =>
                  have HN : Hid ((b0 || dupO path i || dupI path i (k + 1)) = true) := hid (by rw [HST.out, hb]; rfl); clear hb HST; go_wp2_with fail
                  go_quiet (fail)
                  (go_wp2_with fail); go_roundw
                  case rel => exact ⟨k + 1, by omega, by go_num, by rw [HN.out], hid (only_drewN HOX.out _)⟩
                  case measure => simp [intOf]; omega
                | false =>
                  by_cases he : y1 = y2
                  · have HN : Hid ((b0 || dupO path i || dupI path i (k + 1)) = true) := hid (by rw [HST.out, hb, he]; simp); have he2 : (y1 == y2) = true := (by simp [he]); clear hb HST he; go_wp2_with fail
                    go_quiet (fail)
                    (go_wp2_with fail); go_roundw
                    case rel => exact ⟨k + 1, by omega, by go_num, by rw [HN.out], hid (only_drewN HOX.out _)⟩
                    case measure => simp [intOf]; omega
                  · have HN : Hid ((b0 || dupO path i || dupI path i (k + 1)) = false) := hid (by rw [HST.out, hb]; simp [he]); have he2 : (y1 == y2) = false := (by simp [he]); clear hb HST he; go_wp2_with fail
                    go_quiet (fail)
                    (go_wp2_with fail); go_roundw
                    case rel => exact ⟨k + 1, by omega, by go_num, by rw [HN.out], hid (only_drewN HOX.out _)⟩
                    case measure => simp [intOf]; omega
              · obtain rfl : k = i := (by omega); have HN : Hid ((b0 || dupO path (k + 1)) = (b0 || dupO path k || dupI path k k)) := hid (by rw [dupO, Bool.or_assoc]); have HO9 := hid (HOI.out.trans HOX.out); generalize (b0 || dupO path k || dupI path k k) = bb at *; (go_wp2_with fail); go_roundw
                case rel => exact ⟨k + 1, by omega, by omega, by go_num, by rw [HN.out], HO9⟩
                case measure => simp [intOf]; omega
          · have he : i = min len 4 := (by omega); have HE : Hid (i = min len 4) := hid he; have hcs : ((i : Int) < len) = False ∨ ((i : Int) < len) = True ∧ ((i : Int) < 4) = False := by
              by_cases hq : i < len
              · exact .inr ⟨by simp; omega, by simp; omega⟩
              · exact .inl (by simp; omega)
            generalize hbb : (b0 || dupO path i) = bb at *; have HBB := hid hbb; clear he hbb; by_cases hq : (i : Int) < len
            · have hq2 : ¬ (i : Int) < 4 := (by omega); clear hcs h8; (go_wp2_with fail); go_meet
              exact ⟨by rw [← HE.out, HBB.out], HOI⟩
            · clear hcs h8; (go_wp2_with fail); go_meet
              exact ⟨by rw [← HE.out, HBB.out], HOI⟩
      case rest =>
        obtain ⟨rfl, HO2⟩ := hcut; rename World => w2
        rw [HBI.out]; by_cases hmk : mkNo kind amount path = 0
        · have hdec : (!decide (mkNo kind amount path = 0)) = false := (by simp [hmk]); rw [hdec]; clear hdec; have hall : kindB kind = true ∧ amB amount ∧ pathB path = true := (mk_cases kind amount path).resolve_left (fun e => e hmk); have hpo : PathOK path := (by have := hall.2.2; unfold pathB at this; exact of_decide_eq_true this); obtain ⟨p1, p2, -⟩ := hpo; rw [HL.out] at p1 p2; have HAM := hid hall.2.1; have HMK := hid hmk; have HPI := hid H.out.2.2.1; clear hall hmk HBI; go_upto_region 13 with fail
          go_cut [13] from 73 to 75 (fun fv wx => fv = .int .i64 (fromK kind) ∧ w2 = wx)
          case first =>
            have hix := from_index kind k1 k2; clear hi hz0 hz1 hz2 HRB HK HMK k1 k2 hk1' hk2'; (go_wp2_with fail); go_meet
            exact ⟨rfl, rfl⟩
          case rest =>
            obtain ⟨rfl, hww⟩ := hcut; subst hww; go_upto_region 14 with fail
            go_cut [14] from 76 to 78 (fun fv wx => fv = .int .i64 (toK kind) ∧ w2 = wx)
            case first =>
              have hix := to_index kind k1 k2; clear hi hz0 hz1 hz2 HRB HK HMK k1 k2 hk1' hk2'; (go_wp2_with fail); go_meet
              exact ⟨rfl, rfl⟩
            case rest =>
              obtain ⟨rfl, hww⟩ := hcut; subst hww; have HDB : Hid (∀ n, ¬ kind = 1 → debL kind amount n gr = ⟨fromK kind, n, if fromK kind = 4 then gr else 0, amount⟩) := hid (fun n e => deb_is kind amount n gr e)
              have HCB : Hid (∀ n, creL kind amount n gr = ⟨toK kind, n, if toK kind = 4 then gr else 0, -amount⟩) := hid (fun n => cre_is kind amount n gr)
              have HF1 : Hid (fromK kind = 1 ↔ kind = 1) := hid (fromK_one kind); have HT1 : Hid (¬ toK kind = 1) := hid (toK_one kind); generalize fromK kind = fK at *; generalize toK kind = tK at *; (go_upto_region 16 with fail); obtain ⟨w3, hw3⟩ : ∃ x, x = w2.alloc (.cells #[.int .i64 kind, .slice none 0 0] 75) := ⟨_, rfl⟩; obtain ⟨q, hq⟩ : ∃ x, x = w2.heap.size := ⟨_, rfl⟩; have HQ : Hid (w1.heap.size ≤ q ∧ q0 < w1.heap.size) := hid ⟨by rw [hq]; exact HO2.out.size, by have := HQ0.out; omega⟩; have HEB3 : Hid (EB w1.heap.size w3 q kind (.slice none 0 0) []) := hid ⟨by rw [hw3]; exact alloc_new _ _ _ _ _ _ hq rfl, by rw [hw3]; exact alloc_new _ _ _ _ _ _ hq rfl, by rw [hw3]; exact alloc_froz _ _ _ _ _ hq, World.ownsRow_nil _ _ _ _, HQ.out.1, fun k e => by cases e⟩; have HO3 : Hid (Only (fun _ => False) w1 w3) := hid (by rw [hw3]; exact HO2.out.alloc _); simp only [← hw3, ← hq]; clear hw3 hq
              go_upto_if 82 with fail
              go_cut [] from 82 to 92 (fun wx => ∃ v, Hid (EB w1.heap.size wx q kind v (cashL kind amount len)) ∧ Hid (Only (fun _ => False) w1 wx))
              case first =>
                have b1 := HEB3.out.c1; by_cases hk1e : kind = 1
                · have hke : (kind == 1) = true := (by simp [hk1e]); have hca : cashL kind amount len = [⟨1, 0, 0, amount * len⟩] := (by unfold cashL; rw [if_pos hk1e]); have HCA := hid hca; have hmul : wrap64 (amount * (len : Int)) = amount * len ∧ IntKind.i64.wrap (amount * (len : Int)) = amount * len := by
                    have hb := HAM.out; unfold amB at hb; have e : ∀ n : Int, wrap64 n = (n + 9223372036854775808) % 18446744073709551616 - 9223372036854775808 := fun n => (by unfold wrap64; rfl); have h3 : len = 1 ∨ len = 2 ∨ len = 3 := (by omega); have hbd : 0 ≤ amount * (len : Int) ∧ amount * (len : Int) ≤ 30000000000000000 := by
                      rcases h3 with h3 | h3 | h3 <;> (rw [h3]; omega)
                    have e2 : wrap64 (amount * (len : Int)) = amount * len := (by rw [e]; omega); have e3 := e2; rw [e] at e3; exact ⟨e2, by rw [IntKind.wrap_i64]; exact e3⟩
                  obtain ⟨hm1, hm2⟩ := hmul; clear hca hk1e; go_wp2_with (at_builtin; refine append_mine rfl _ _ 73 rfl 94 i0 _ 4 32 Tryz.underlying73 hi hz0 hz1 hz2 rfl (by decide) _ 0 [] rfl (World.ownsRow_nil _ _ _ _) ⟨w3.heap.size, 0, none⟩ 1 1 (encL ⟨1, 0, 0, amount * (len : Int)⟩) rfl ?c1 ?c2 ?c3 ?c4 ?c5 ?_)
                  case c1 => rfl
                  case c2 => exact fun j u h => by simpa [encL] using h
                  case c3 => exact lv_one [⟨1, 0, 0, amount * (len : Int)⟩]
                  case c4 => unfold maxLen; omega
                  first | (case c5 => omega) | skip
                  intro v2 w4 hown hgrow hkk; have HG4 := hid (Only.of_grown hgrow); have HA4 : Hid (Only (fun _ => False) w3 (w3.alloc (.cells #[.int .i64 1, .int .i64 0, .int .i64 0, .int .i64 (amount * (len : Int))] 94))) := hid ((Only.refl _ _).alloc _); obtain ⟨g2, cp2, rfl, -⟩ := owns_form hown (by omega); have HEB4 : Hid (EB w1.heap.size w4 q kind (.slice none 0 0) []) := hid ((HEB3.out.quiet HA4.out).only (S := fun k => (Value.slice none 0 0).ownBlock = some k) HG4.out (fun e => by cases e) (fun k e => by cases e)); have m1 := HEB4.out.c1; have mf := HEB4.out.f1; have HEB5 : Hid (EB w1.heap.size (w4.setCell ⟨q, 1, none⟩ (.slice (some ⟨g2, 0, none⟩) 1 cp2)) q kind (.slice (some ⟨g2, 0, none⟩) 1 cp2) [⟨1, 0, 0, amount * (len : Int)⟩]) := hid (HEB3.out.put HA4.out HG4.out hown (fun k e => by
                    rcases hkk k e with e | e
                    · exact .inl e
                    · exact .inr (by have := HA4.out.size; omega)))
                  have HO5 : Hid (Only (fun _ => False) w1 (w4.setCell ⟨q, 1, none⟩ (.slice (some ⟨g2, 0, none⟩) 1 cp2))) := hid (((HO3.out.trans HA4.out).then HG4.out (fun k hk e => by cases e)).then (Only.set (fun x => x = q) w4 q 1 _ rfl) (fun k hk e => by have e' : k = q := e; have := HQ.out.1; omega)); clear hown hgrow hkk b1; (go_wp2_with fail); go_meet
                  exact ⟨_, hid (by rw [HCA.out]; exact HEB5.out), HO5⟩
                · have hke : (kind == 1) = false := (by simp [hk1e]); have hca : cashL kind amount len = [] := (by unfold cashL; rw [if_neg hk1e]); have HCA := hid hca; clear hca hk1e hi hz0 hz1 hz2; (go_wp2_with fail); go_meet
                  exact ⟨_, hid (by rw [HCA.out]; exact HEB3.out), HO3⟩
              case rest =>
                obtain ⟨v0, HEB, HO⟩ := hcut; rename World => w4
                clear HEB3 HO3; go_upto_block 4 with fail
                go_cut [16, 17, 18, 19] from 93 to 163 (fun iv sv lx tv wx => ∃ (v : Value) (D : List Lg), Hid (D.Perm (rawL kind amount gr path)) ∧ Hid (Sorted D) ∧ Hid (EB w1.heap.size wx q kind v D) ∧ Hid (Only (fun _ => False) w1 wx))
                case first =>
                  clear HRB; go_wp2_with fail
                  go_loopw [16] (fun iv wr => ∃ (i : Nat) (v : Value) (D : List Lg), i ≤ len ∧ iv = .int .i64 (i : Int) ∧ Hid (D.length ≤ 2 * i + 1) ∧ Hid (D.Perm (cashL kind amount len ++ rawN kind amount gr (path.take i))) ∧ Hid (Sorted D) ∧ Hid (EB w1.heap.size wr q kind v D) ∧ Hid (Only (fun _ => False) w1 wr)) (fun iv _ => len - (intOf iv).toNat)
                  case atStart => exact ⟨0, v0, cashL kind amount len, by omega, rfl, hid (by unfold cashL; split <;> simp), hid (by rw [List.take_zero]; unfold rawN; simp), hid (by unfold cashL Sorted; split <;> simp), HEB, HO⟩
                  case round =>
                    clear HEB HO; obtain ⟨i, v, D, hil, rfl, HDL, HPM, HSO, HEBI, HOI⟩ := hrel; rename World => wr
                    by_cases h8 : i < len
                    · obtain ⟨b, off, rfl, hc⟩ := H.out.2.2.2.resolve_left (by omega); have HNC : Hid (∀ w', Only (fun _ => False) w1 w' → w'.cell? ⟨b, off + i, none⟩ = some (.int .i64 (path.getD i 0))) := hid (fun w' ho => (HO1.out.trans ho).cell' (hc i h8) (fun f => f)); have HRN : Hid (cashL kind amount len ++ rawN kind amount gr (path.take (i + 1)) = cashL kind amount len ++ rawN kind amount gr (path.take i) ++ nodeL kind amount gr (path.getD i 0)) := hid (by rw [rawN_succ kind amount gr path i (by rw [HL.out]; exact h8), List.append_assoc]); have j1 : (i : Int) < len := (by omega); have j3 : (0 : Int) ≤ i := (by omega); have i3 : i ≤ 3 := (by omega); clear hc; generalize path.getD i 0 = n at *; generalize cashL kind amount len ++ rawN kind amount gr (path.take i) = R0 at *; go_wp2_with fail
                      go_loopw [17] (fun sv wx => ∃ (s : Nat) (v : Value) (D : List Lg), s ≤ 2 ∧ sv = .int .i64 (s : Int) ∧ Hid (D.length ≤ 2 * i + s + 1) ∧ Hid (D.Perm (R0 ++ partL kind amount gr n s)) ∧ Hid (Sorted D) ∧ Hid (EB w1.heap.size wx q kind v D) ∧ Hid (Only (fun _ => False) w1 wx)) (fun sv _ => 2 - (intOf sv).toNat)
                      case atStart => exact ⟨0, v, D, by omega, rfl, HDL, hid (by have := HPM.out; simpa [partL] using this), HSO, HEBI, HOI⟩
                      case round =>
                        clear HDL HPM HSO HEBI HOI; obtain ⟨s, v, D, hs2, rfl, HDL, HPM, HSO, HEBX, HOX⟩ := hrel; rename World => wx
                        by_cases h7 : s < 2
                        · have nc := HNC.out wx HOX.out; have s1 : (s : Int) < 2 := (by omega); have s0 : (0 : Int) ≤ s := (by omega); (go_upto_region 25 with fail); obtain ⟨w5, hw5⟩ : ∃ x, x = wx.alloc (.cells #[.int .i64 fK, .int .i64 n, .int .i64 0, .int .i64 amount] 94) := ⟨_, rfl⟩; obtain ⟨lb, hlb⟩ : ∃ x, x = wx.heap.size := ⟨_, rfl⟩; have HLB : Hid (LB w5 lb ⟨fK, n, 0, amount⟩) := hid (by rw [hw5]; exact LB.new hlb); have HA5 : Hid (Only (fun _ => False) wx w5) := hid (by rw [hw5]; exact (Only.refl _ _).alloc _); have HLQ : Hid (w1.heap.size ≤ lb ∧ q < lb ∧ (∀ k, v.ownBlock = some k → k < lb) ∧ lb < w5.heap.size) := hid ⟨by rw [hlb]; exact HOX.out.size, by rw [hlb]; exact HEBX.out.lt.1, by rw [hlb]; exact HEBX.out.lt.2, by rw [hw5, hlb]; simp⟩; simp only [← hw5, ← hlb]; clear hw5 hlb nc
                          go_upto_if 111 with fail
                          go_cut [] from 111 to 116 (fun wy => Hid (LB wy lb ⟨(if s = 0 then fK else tK), n, 0, (if s = 0 then amount else -amount)⟩) ∧ Hid (Only (fun x => x = lb) w5 wy))
                          case first =>
                            by_cases hs0 : s = 0
                            · subst hs0; (go_wp2_with fail); go_meet
                              exact ⟨hid (by simpa using HLB.out), hid (Only.refl _ _)⟩
                            · obtain rfl : s = 1 := (by omega); obtain ⟨c0, c1, c2, c3, f0, f2, f3⟩ := id HLB.out; have hneg : wrap64 (-amount) = -amount ∧ IntKind.i64.wrap (-amount) = -amount := by
                                have hb := HAM.out; unfold amB at hb; have e : ∀ n : Int, wrap64 n = (n + 9223372036854775808) % 18446744073709551616 - 9223372036854775808 := fun n => (by unfold wrap64; rfl); have e2 : wrap64 (-amount) = -amount := (by rw [e]; omega); have e3 := e2; rw [e] at e3; exact ⟨e2, by rw [IntKind.wrap_i64]; exact e3⟩
                              obtain ⟨hn1, hn2⟩ := hneg; (go_wp2_with fail); go_meet
                              exact ⟨hid (by simpa using HLB.out.setKA tK (-amount)), hid ((Only.set (fun x => x = lb) _ lb 0 _ rfl).trans (Only.set (fun x => x = lb) _ lb 3 _ rfl))⟩
                          case rest =>
                            obtain ⟨HLB2, HO5⟩ := hcut; rename World => w6
                            obtain ⟨kx, hkx⟩ : ∃ x, (if s = 0 then fK else tK) = x := ⟨_, rfl⟩
                            obtain ⟨ax, hax⟩ : ∃ x, (if s = 0 then amount else -amount) = x := ⟨_, rfl⟩
                            have HKX := hid hkx; have HAX := hid hax; rw [hkx, hax] at HLB2; clear hkx hax HLB; have lcx := HLB2.out.c0
                            go_upto_if 119 with fail
                            clear lcx
                            go_cut [] from 119 to 121 (fun wy => Hid (LB wy lb ⟨kx, n, (if kx = 4 then gr else 0), ax⟩) ∧ Hid (Only (fun x => x = lb) w6 wy))
                            case first =>
                              obtain ⟨c0, c1, c2, c3, f0, f2, f3⟩ := id HLB2.out; by_cases h4 : kx = 4
                              · have he : (kx == 4) = true := (by simp [h4]); have HH := hid h4; clear h4; (go_wp2_with fail); go_meet
                                exact ⟨hid (by rw [if_pos HH.out]; exact HLB2.out.setG gr), hid (Only.set (fun x => x = lb) _ lb 2 _ rfl)⟩
                              · have he : (kx == 4) = false := (by simp [h4]); have HH := hid h4; clear h4; (go_wp2_with fail); go_meet
                                exact ⟨hid (by rw [if_neg HH.out]; exact HLB2.out), hid (Only.refl _ _)⟩
                            case rest =>
                              obtain ⟨HLB3, HO6⟩ := hcut; rename World => w7
                              obtain ⟨gx, hgx⟩ : ∃ x, (if kx = 4 then gr else 0) = x := ⟨_, rfl⟩
                              have HGX := hid hgx; rw [hgx] at HLB3; clear hgx HLB2; have HO57 : Hid (Only (fun x => x = lb) w5 w7) := hid (HO5.out.trans HO6.out); have HEB7 : Hid (EB w1.heap.size w7 q kind v D) := hid ((HEBX.out.quiet HA5.out).only HO57.out (fun e => by have e' : q = lb := e; have := HLQ.out; omega) (fun k hk e => by have e' : k = lb := e; have := HLQ.out.2.2.1 k hk; omega)); have HO7 : Hid (Only (fun _ => False) w1 w7) := hid ((HOX.out.trans HA5.out).then HO57.out (fun k hk e => by have e' : k = lb := e; have := HLQ.out.1; omega)); have HLT7 : Hid (lb < w7.heap.size) := hid (World.block_lt_of_cell? w7 _ HLB3.out.c0); clear HO5 HO6 HO57 HEBX HOX HA5; have lc0 := HLB3.out.c0; by_cases hx1 : kx = 1
                              · have hxe : (kx == 1) = true := (by simp [hx1]); have hsk : s = 0 ∧ kind = 1 := by
                                  have e := HKX.out; by_cases hs0 : s = 0
                                  · rw [if_pos hs0] at e; exact ⟨hs0, HF1.out.1 (by rw [e]; exact hx1)⟩
                                  · rw [if_neg hs0] at e; exact absurd (by rw [e]; exact hx1) HT1.out
                                obtain ⟨rfl, hkd⟩ := hsk; have HPN : Hid (D.Perm (R0 ++ partL kind amount gr n (0 + 1))) := hid (by rw [Nat.zero_add, partL_skip hkd]; exact HPM.out); have HDN : Hid (D.length ≤ 2 * i + (0 + 1) + 1) := hid (by have := HDL.out; omega); clear hkd hx1; (go_wp2_with fail); go_roundw
                                case rel => exact ⟨0 + 1, v, D, by omega, by go_num, HDN, HPN, HSO, HEB7, HO7⟩
                                case measure => simp [intOf]
                              · have hxe : (kx == 1) = false := (by simp [hx1]); have HXE : Hid (sideL kind amount gr n s = ⟨kx, n, gx, ax⟩ ∧ ¬ (s = 0 ∧ kind = 1)) := hid (by
                                  have e := HKX.out; have e2 := HAX.out; have e3 := HGX.out; unfold sideL; by_cases hs0 : s = 0
                                  · rw [if_pos hs0] at e e2 ⊢; have hkd : ¬ kind = 1 := fun h => hx1 (by rw [← e]; exact HF1.out.2 h); refine ⟨?_, fun h => hkd h.2⟩; rw [HDB.out n hkd, e, e2, e3]
                                  · rw [if_neg hs0] at e e2 ⊢; refine ⟨?_, fun h => hs0 h.1⟩; rw [HCB.out n, e, e2, e3])
                                have HPT : Hid (partL kind amount gr n (s + 1) = partL kind amount gr n s ++ [⟨kx, n, gx, ax⟩]) := hid (by rw [partL_next h7 HXE.out.2, HXE.out.1]); clear hx1 HXE HKX HAX HGX; obtain ⟨av, cv, hv⟩ : ∃ av cv, v = .slice av D.length cv := by
                                  rcases HEB7.out.own.2 with ⟨hv, h0⟩ | ⟨g, cap', cur, hv, _⟩
                                  · exact ⟨none, 0, by rw [hv, h0]⟩
                                  · exact ⟨_, _, hv⟩
                                subst hv; have b1 := HEB7.out.c1; obtain ⟨-, lc1, lc2, lc3, -, -, -⟩ := id HLB3.out; have hdl : D.length ≤ 20 := (by have := HDL.out; omega); have HWA : Hid (Only (fun _ => False) w7 (w7.alloc (.cells #[.int .i64 kx, .int .i64 n, .int .i64 gx, .int .i64 ax] 94))) := hid ((Only.refl _ _).alloc _); have HPX := hid ((HEB7.out.quiet HWA.out).own); go_wp2_with (at_builtin; refine append_mine rfl _ _ 73 rfl 94 i0 _ 4 32 Tryz.underlying73 hi hz0 hz1 hz2 rfl (by decide) _ D.length _ rfl HPX.out ⟨w7.heap.size, 0, none⟩ 1 1 (encL ⟨kx, n, gx, ax⟩) rfl ?e1 ?e2 ?e3 ?e4 ?e5 ?_)
                                case e1 => rfl
                                case e2 => first | exact fun j u h => by simpa [encL] using h | exact fun j u h => h
                                case e3 => exact lv_one [⟨kx, n, gx, ax⟩]
                                case e4 => unfold maxLen; omega
                                case e5 => omega
                                intro v2 w8 hown hgrow hkk; have HG8 := hid (Only.of_grown hgrow); obtain ⟨g, c6, rfl, -⟩ := owns_form hown (by omega); have HQV : Hid (¬ (Value.slice av D.length cv).ownBlock = some q) := hid (fun e => (HEB7.out.nb q e).2 rfl); have m1 := HG8.out.cell' (HWA.out.cell' b1 (fun f => f)) HQV.out; have mf : w8.frozen? ⟨q, 1, none⟩ = false := (HG8.out.frozen (p := ⟨q, 1, none⟩) (by have := HEB7.out.lt.1; have := HWA.out.size; show q < _; omega) HQV.out).trans ((HWA.out.frozen (p := ⟨q, 1, none⟩) HEB7.out.lt.1 (fun f => f)).trans HEB7.out.f1); have HOWN9 : Hid (OwnR w8 (.slice (some ⟨g, 0, none⟩) (D ++ [(⟨kx, n, gx, ax⟩ : Lg)]).length c6) (D ++ [⟨kx, n, gx, ax⟩])) := hid (by unfold OwnR; rw [List.length_append, lv_append]; exact hown); have HKK : Hid (∀ k, (Value.slice (some ⟨g, 0, none⟩) (D.length + 1) c6).ownBlock = some k → (Value.slice av D.length cv).ownBlock = some k ∨ w7.heap.size ≤ k) := hid (fun k e => by
                                  rcases hkk k e with e | e
                                  · exact .inl e
                                  · exact .inr (by have := HWA.out.size; omega))
                                have HVL : Hid (∀ k, (Value.slice av D.length cv).ownBlock = some k → k < lb ∧ w1.heap.size ≤ k) := hid (fun k e => ⟨HLQ.out.2.2.1 k e, (HEB7.out.nb k e).1⟩); obtain ⟨w9, hw9⟩ : ∃ x, x = w8.setCell ⟨q, 1, none⟩ (.slice (some ⟨g, 0, none⟩) (D.length + 1) c6) := ⟨_, rfl⟩; have HEB9 : Hid (EB w1.heap.size w9 q kind (.slice (some ⟨g, 0, none⟩) (D.length + 1) c6) (D ++ [⟨kx, n, gx, ax⟩])) := hid (by rw [hw9]; exact HEB7.out.put HWA.out HG8.out (by have := HOWN9.out; rwa [List.length_append] at this) HKK.out); have HGL : Hid (w1.heap.size ≤ g ∧ g ≠ lb ∧ g ≠ q) := hid (by
                                  have hq := HEB9.out.nb g rfl; refine ⟨hq.1, ?_, hq.2⟩; rcases HKK.out g rfl with e | e
                                  · have := (HVL.out g e).1; omega
                                  · have := HLT7.out; omega)
                                have HLB9 : Hid (LB w9 lb ⟨kx, n, gx, ax⟩) := hid (by
                                  rw [hw9]; exact ((HLB3.out.only HWA.out (fun f => f)).only HG8.out (fun e => by have := (HVL.out lb e).1; omega)).only (Only.set (fun x => x = q) w8 q 1 _ rfl) (fun e => by have e' : lb = q := e; have := HLQ.out.2.1; omega))
                                have HO9 : Hid (Only (fun _ => False) w1 w9) := hid (by
                                  rw [hw9]; exact ((HO7.out.trans HWA.out).then HG8.out (fun k hk e => by have := (HVL.out k e).2; omega)).then (Only.set (fun x => x = q) w8 q 1 _ rfl) (fun k hk e => by have e' : k = q := e; have := HQ.out.1; omega))
                                clear hown hgrow hkk b1 lc0 lc1 lc2 lc3 HOWN9 HPX HG8 HWA HQV HVL HKK HO7 HEB7 HLB3; (go_upto_block 8 with fail); rw [← hw9]; have HFIN : Hid (∀ (A B : List Lg), A ++ B = D → (∀ y ∈ B, ltA ⟨kx, n, gx, ax⟩ y) → (A = [] ∨ ∃ z, A.getLast? = some z ∧ ¬ ltA ⟨kx, n, gx, ax⟩ z) → (A ++ (⟨kx, n, gx, ax⟩ : Lg) :: B).length ≤ 2 * i + (s + 1) + 1 ∧ (A ++ (⟨kx, n, gx, ax⟩ : Lg) :: B).Perm (R0 ++ partL kind amount gr n (s + 1)) ∧ Sorted (A ++ (⟨kx, n, gx, ax⟩ : Lg) :: B)) := hid (fun A B hAB hB hA => by
                                  refine ⟨?_, ?_, ins_sorted (by rw [hAB]; exact HSO.out) hB hA⟩
                                  · have h5 := HDL.out; rw [← hAB, List.length_append] at h5; rw [List.length_append, List.length_cons]; omega
                                  · rw [HPT.out, ← List.append_assoc]; exact (ins_perm hAB).trans (HPM.out.append_right _))
                                clear hw9 m1 mf HPT HDL HPM HSO hi hz0 hz1 hz2 HDB HCB HF1 HT1 HNC HRN; go_wp2_with fail
                                go_loopw [19] (fun tv wz => ∃ (t : Nat) (A B : List Lg), tv = .int .i64 (t : Int) ∧ A.length = t ∧ Hid (A ++ B = D) ∧ Hid (EB w1.heap.size wz q kind (.slice (some ⟨g, 0, none⟩) (D.length + 1) c6) (A ++ ⟨kx, n, gx, ax⟩ :: B)) ∧ Hid (LB wz lb ⟨kx, n, gx, ax⟩) ∧ Hid (∀ y ∈ B, ltA ⟨kx, n, gx, ax⟩ y) ∧ Hid (Only (fun _ => False) w1 wz)) (fun tv _ => (intOf tv).toNat)
                                case atStart => exact ⟨D.length, D, [], rfl, rfl, hid (by simp), HEB9, HLB9, hid (fun y hy => by cases hy), HO9⟩
                                case round =>
                                  clear HEB9 HLB9 HO9; obtain ⟨t, A, B, rfl, hAl, HAB, HEBZ, HLBZ, HLT, HOZ⟩ := hrel; rename World => wz
                                  have HAL2 := hid hAl; have HTM : Hid (t ≤ D.length) := hid (by have h5 := HAB.out; rw [← h5, List.length_append]; omega); clear hAl; by_cases h0 : t = 0
                                  · as_aux_lemma =>
                                      subst h0; have hA0 : A = [] := List.eq_nil_of_length_eq_zero HAL2.out; have hex := HFIN.out A B HAB.out HLT.out (.inl hA0); have HDN := hid hex.1; have HPN := hid hex.2.1; have HSN := hid hex.2.2; clear hA0 HFIN HAB hex; (go_upto_region 32 with fail); refine wp_region_noPanic ?_; refine late.region (fun w' => w'.cell? ⟨q, 0, none⟩ = some (.int .i64 kind)) (fun j => [].contains j) (by kernel_rfl) ((HEBZ.out.quiet (Only.refl _ _).drew).c0) (fun hHeld => ?_); obtain ⟨z0, hz0⟩ : ∃ x, x = wz.drew := ⟨_, rfl⟩; rw [← hz0] at hHeld ⊢; have hot : Hid (Only (fun _ => False) wz z0) := hid (by rw [hz0]; exact (Only.refl _ _).drew); clear hz0; refine sho.lt 0 [1, 2, 3, 4, 5, 6, 7, 8, 9, 10, 11] ?_; refine sho.lt 1 [2, 3, 4, 5, 6, 7, 8, 9, 10, 11] ?_; refine sho.lt 2 [3, 4, 5, 6, 7, 8, 9, 10, 11] ?_; refine late.take (i := 3) [10, 11] (v := undef) rfl (by kernel_rfl) (by kernel_rfl) (by kernel_rfl) (by kernel_rfl) (fun _ _ _ h => h) (Or.inr ⟨rfl, rfl⟩) (by assumption) ?_; (try simp only [getElem_toArray, getElem_cons_zero, getElem_cons_succ, Act.put, setIfInBounds_toArray, set_cons_zero, set_cons_succ]); refine late.take (i := 4) [5, 8, 9, 10, 11] (v := undef) rfl (by kernel_rfl) (by kernel_rfl) (by kernel_rfl) (by kernel_rfl) (fun _ _ _ h => h) (Or.inr ⟨rfl, rfl⟩) (by assumption) ?_; (try simp only [getElem_toArray, getElem_cons_zero, getElem_cons_succ, Act.put, setIfInBounds_toArray, set_cons_zero, set_cons_succ]); refine late.take (i := 5) [8, 9, 10, 11] (v := undef) rfl (by kernel_rfl) (by kernel_rfl) (by kernel_rfl) (by kernel_rfl) (fun _ _ _ h => h) (Or.inr ⟨rfl, rfl⟩) (by assumption) ?_; (try simp only [getElem_toArray, getElem_cons_zero, getElem_cons_succ, Act.put, setIfInBounds_toArray, set_cons_zero, set_cons_succ]); refine late.take (i := 6) [7, 8, 9, 10, 11] (v := undef) rfl (by kernel_rfl) (by kernel_rfl) (by kernel_rfl) (by kernel_rfl) (fun _ _ _ h => h) (Or.inr ⟨rfl, rfl⟩) (by assumption) ?_; (try simp only [getElem_toArray, getElem_cons_zero, getElem_cons_succ, Act.put, setIfInBounds_toArray, set_cons_zero, set_cons_succ]); refine late.take (i := 7) [8, 9, 10, 11] (v := undef) rfl (by kernel_rfl) (by kernel_rfl) (by kernel_rfl) (by kernel_rfl) (fun _ _ _ h => h) (Or.inr ⟨rfl, rfl⟩) (by assumption) ?_; (try simp only [getElem_toArray, getElem_cons_zero, getElem_cons_succ, Act.put, setIfInBounds_toArray, set_cons_zero, set_cons_succ]); refine late.take (i := 8) [9, 10, 11] (v := undef) rfl (by kernel_rfl) (by kernel_rfl) (by kernel_rfl) (by kernel_rfl) (fun _ _ _ h => h) (Or.inr ⟨rfl, rfl⟩) (by assumption) ?_; (try simp only [getElem_toArray, getElem_cons_zero, getElem_cons_succ, Act.put, setIfInBounds_toArray, set_cons_zero, set_cons_succ]); refine late.take (i := 9) [10, 11] (v := undef) rfl (by kernel_rfl) (by kernel_rfl) (by kernel_rfl) (by kernel_rfl) (fun _ _ _ h => h) (Or.inr ⟨rfl, rfl⟩) (by assumption) ?_; (try simp only [getElem_toArray, getElem_cons_zero, getElem_cons_succ, Act.put, setIfInBounds_toArray, set_cons_zero, set_cons_succ]); refine late.take (i := 10) [11] (v := undef) rfl (by kernel_rfl) (by kernel_rfl) (by kernel_rfl) (by kernel_rfl) (fun _ _ _ h => h) (Or.inr ⟨rfl, rfl⟩) (by assumption) ?_; (try simp only [getElem_toArray, getElem_cons_zero, getElem_cons_succ, Act.put, setIfInBounds_toArray, set_cons_zero, set_cons_succ]); refine sho.lt 11 [] ?_; refine late.done (by kernel_rfl) ?_ _; refine NoPanic.normal ?_; have HEBN := hid (HEBZ.out.quiet hot.out); have HON := hid (HOZ.out.trans hot.out); clear hHeld hot HEBZ HOZ HLBZ; (go_wp2_with fail); go_roundw
                                      case rel => exact ⟨s + 1, _, A ++ (⟨kx, n, gx, ax⟩ : Lg) :: B, by omega, by go_num, HDN, HPN, HSN, HEBN, HON⟩
                                      case measure => (simp [intOf]; omega)
                                  · obtain ⟨c, rfl⟩ : ∃ c, t = c + 1 := ⟨t - 1, by omega⟩; rcases split_lastL A with rfl | ⟨A', y, rfl⟩
                                    · have := HAL2.out; simp at this
                                    · have hal : A'.length = c := (by have h5 := HAL2.out; rw [List.length_append] at h5; simpa using h5); have ha : A' ++ [y] ++ (⟨kx, n, gx, ax⟩ : Lg) :: B = A' ++ y :: ⟨kx, n, gx, ax⟩ :: B := (by simp); have HB' : Hid (A' ++ (y :: B) = D) := hid (by rw [← HAB.out]; simp); have HEBY := HEBZ; rw [ha] at HEBY; have hln : (A' ++ y :: (⟨kx, n, gx, ax⟩ : Lg) :: B).length = D.length + 1 := (by rw [← HB'.out]; simp only [List.length_append, List.length_cons]; omega); have HLN1 := hid hln; have HALN := hid hal; have HGA : Hid ((A' ++ y :: (⟨kx, n, gx, ax⟩ : Lg) :: B).getD c default = y) := hid (by rw [← hal]; simp [List.getD]); have hc7 : c + 1 ≤ D.length := HTM.out; have HM : Hid (c < D.length + 1 ∧ c + 1 < D.length + 1) := hid ⟨by omega, by omega⟩; have n3 : (0 : Int) ≤ (c : Int) := (by omega); have n4 : (c : Int) < (D.length : Int) + 1 := (by omega); have n5 : (c : Int) + 1 < (D.length : Int) + 1 := (by omega); have n6 : (0 : Int) < (c : Int) + 1 := (by omega); have n7 : (0 : Int) ≤ (c : Int) + 1 := (by omega); obtain ⟨n1, n2⟩ := wrap_sm c (by omega); obtain ⟨yk, yn, yg, ya⟩ := y; have HCL : Hid (∀ w', Only (fun _ => False) wz w' → w'.cell? ⟨q, 1, none⟩ = some (.slice (some ⟨g, 0, none⟩) (D.length + 1) c6) ∧ (w'.cell? ⟨lb, 0, none⟩ = some (.int .i64 kx) ∧ w'.cell? ⟨lb, 1, none⟩ = some (.int .i64 n) ∧ w'.cell? ⟨lb, 2, none⟩ = some (.int .i64 gx) ∧ w'.cell? ⟨lb, 3, none⟩ = some (.int .i64 ax)) ∧ w'.cell? ⟨g, c * 4, none⟩ = some (.int .i64 yk) ∧ w'.cell? ⟨g, c * 4 + 1, none⟩ = some (.int .i64 yn) ∧ w'.cell? ⟨g, c * 4 + 2, none⟩ = some (.int .i64 yg) ∧ w'.cell? ⟨g, c * 4 + 3, none⟩ = some (.int .i64 ya)) := hid (fun w' ho => by
                                        have hE := HEBY.out.quiet ho; have hLb := HLBZ.out.only ho (fun f => f); obtain ⟨⟨y0, y1, y2, y3⟩, -⟩ := own_cell4 hE.own c HLN1.out.symm HM.out.1; rw [HGA.out] at y0 y1 y2 y3; exact ⟨hE.c1, ⟨hLb.c0, hLb.c1, hLb.c2, hLb.c3⟩, y0, y1, y2, y3⟩)
                                      have HRS : Hid (∀ w', _) := hid (fun w' => rises_any ⟨kx, n, gx, ax⟩ ⟨yk, yn, yg, ya⟩ w'); clear hal ha hln hc7 h0; by_cases hlt : ltA ⟨kx, n, gx, ax⟩ ⟨yk, yn, yg, ya⟩
                                      · have hb : ltB ⟨kx, n, gx, ax⟩ ⟨yk, yn, yg, ya⟩ = true := decide_eq_true hlt; rw [hb] at HRS; have HLB2 : Hid (∀ z ∈ (⟨yk, yn, yg, ya⟩ : Lg) :: B, ltA ⟨kx, n, gx, ax⟩ z) := hid (fun z hz => by
                                          rcases List.mem_cons.1 hz with rfl | hz
                                          · exact hlt
                                          · exact HLT.out z hz)
                                        clear hb hlt HLT HAB HAL2 HFIN
                                        as_aux_lemma =>
                                          (go_upto_region 32 with fail); refine wp_region_noPanic ?_; refine late.region (fun w' => w'.cell? ⟨q, 1, none⟩ = some (.slice (some ⟨g, 0, none⟩) (D.length + 1) c6) ∧ (w'.cell? ⟨lb, 0, none⟩ = some (.int .i64 kx) ∧ w'.cell? ⟨lb, 1, none⟩ = some (.int .i64 n) ∧ w'.cell? ⟨lb, 2, none⟩ = some (.int .i64 gx) ∧ w'.cell? ⟨lb, 3, none⟩ = some (.int .i64 ax)) ∧ w'.cell? ⟨g, c * 4, none⟩ = some (.int .i64 yk) ∧ w'.cell? ⟨g, c * 4 + 1, none⟩ = some (.int .i64 yn) ∧ w'.cell? ⟨g, c * 4 + 2, none⟩ = some (.int .i64 yg) ∧ w'.cell? ⟨g, c * 4 + 3, none⟩ = some (.int .i64 ya)) (fun j => [].contains j) (by kernel_rfl) (HCL.out _ (Only.refl _ _).drew) (fun hHeld => ?_); obtain ⟨z0, hz0⟩ : ∃ x, x = wz.drew := ⟨_, rfl⟩; rw [← hz0] at hHeld ⊢; have hot : Hid (Only (fun _ => False) wz z0) := hid (by rw [hz0]; exact (Only.refl _ _).drew); clear hz0; refine sho.lt 0 [1, 2, 3, 4, 5, 6, 7, 8, 9, 10, 11] ?_; refine sho.lt 1 [2, 3, 4, 5, 6, 7, 8, 9, 10, 11] ?_; refine sho.lt 2 [3, 4, 5, 6, 7, 8, 9, 10, 11] ?_; refine sho.lt 3 [10, 11] ?_; refine sho.lt 4 [5, 8, 9, 10, 11] ?_; refine sho.lt 5 [8, 9, 10, 11] ?_; refine sho.lt 6 [7, 8, 9, 10, 11] ?_; refine sho.lt 7 [8, 9, 10, 11] ?_; refine sho.lt 8 [9, 10, 11] ?_; refine sho.lt 9 [10, 11] ?_; refine late.ready (rs := [10]) (by kernel_rfl) (by simp) ?_; refine late.Each.cons rfl (fun K hK => ?_) late.Each.nil; (try simp only [getElem_toArray, getElem_cons_zero, getElem_cons_succ]); (go_simp); (go_at_call 68); (with_reducible refine (HRS.out _).mono ?_); rintro _ W1 ⟨rfl, ho⟩; replace hot := hid (hot.out.trans ho); clear ho; (try dsimp only); refine hK.out _ _ (fun _ => HCL.out _ hot.out) (fun hHeld1 => ?_); replace hHeld1 := hHeld1 rfl; clear hK K; (try simp only [getElem_toArray, getElem_cons_zero, getElem_cons_succ, Act.put, setIfInBounds_toArray, set_cons_zero, set_cons_succ]); refine sho.lt 11 [] ?_; refine late.done (by kernel_rfl) ?_ _; refine NoPanic.normal ?_; have HZW := hid hot.out; clear hHeld hot HRS; (go_upto_region 33 with fail); obtain ⟨wv, hwv⟩ : ∃ x, x = W1 := ⟨_, rfl⟩; rw [← hwv]; rw [← hwv] at HZW; clear hwv; have HEBV : Hid (∀ w', Only (fun _ => False) wv w' → EB w1.heap.size w' q kind (.slice (some ⟨g, 0, none⟩) (D.length + 1) c6) (A' ++ (⟨yk, yn, yg, ya⟩ : Lg) :: (⟨kx, n, gx, ax⟩ : Lg) :: B)) := hid (fun w' h => HEBY.out.quiet (HZW.out.trans h)); have HRWX : Hid (∀ w', Only (fun _ => False) wv w' → OwnR w' (.slice (some ⟨g, 0, none⟩) (A' ++ (⟨yk, yn, yg, ya⟩ : Lg) :: (⟨kx, n, gx, ax⟩ : Lg) :: B).length c6) (A' ++ (⟨yk, yn, yg, ya⟩ : Lg) :: (⟨kx, n, gx, ax⟩ : Lg) :: B)) := hid (fun w' h => by rw [HLN1.out]; exact (HEBV.out w' h).own); have HXC : Hid (∀ w', Only (fun x => x = g) wv w' → w'.cell? ⟨q, 1, none⟩ = some (.slice (some ⟨g, 0, none⟩) (D.length + 1) c6) ∧ (w'.cell? ⟨lb, 0, none⟩ = some (.int .i64 kx) ∧ w'.cell? ⟨lb, 1, none⟩ = some (.int .i64 n) ∧ w'.cell? ⟨lb, 2, none⟩ = some (.int .i64 gx) ∧ w'.cell? ⟨lb, 3, none⟩ = some (.int .i64 ax))) := hid (fun w' h => by
                                            have hE := HEBV.out wv (Only.refl _ _); have hLb := HLBZ.out.only HZW.out (fun f => f); have hgl : ¬ lb = g := fun e => HGL.out.2.1 e.symm; exact ⟨h.cell' hE.c1 (fun e => HGL.out.2.2 (show q = g from e).symm), h.cell' hLb.c0 hgl, h.cell' hLb.c1 hgl, h.cell' hLb.c2 hgl, h.cell' hLb.c3 hgl⟩)
                                          have HM2 : Hid (c < (A' ++ (⟨yk, yn, yg, ya⟩ : Lg) :: (⟨kx, n, gx, ax⟩ : Lg) :: B).length ∧ c + 1 < (A' ++ (⟨yk, yn, yg, ya⟩ : Lg) :: (⟨kx, n, gx, ax⟩ : Lg) :: B).length) := hid (by rw [HLN1.out]; exact HM.out); have HSL : Hid (∀ w', Only (fun _ => False) wv w' → w'.cell? ⟨q, 1, none⟩ = some (.slice (some ⟨g, 0, none⟩) (D.length + 1) c6) ∧ (w'.cell? ⟨lb, 0, none⟩ = some (.int .i64 kx) ∧ w'.cell? ⟨lb, 1, none⟩ = some (.int .i64 n) ∧ w'.cell? ⟨lb, 2, none⟩ = some (.int .i64 gx) ∧ w'.cell? ⟨lb, 3, none⟩ = some (.int .i64 ax)) ∧ w'.cell? ⟨g, c * 4, none⟩ = some (.int .i64 yk) ∧ w'.cell? ⟨g, c * 4 + 1, none⟩ = some (.int .i64 yn) ∧ w'.cell? ⟨g, c * 4 + 2, none⟩ = some (.int .i64 yg) ∧ w'.cell? ⟨g, c * 4 + 3, none⟩ = some (.int .i64 ya)) := hid (fun w' h => HCL.out w' (HZW.out.trans h)); refine wp_region_noPanic ?_; refine late.region (fun w' => w'.cell? ⟨q, 1, none⟩ = some (.slice (some ⟨g, 0, none⟩) (D.length + 1) c6) ∧ (w'.cell? ⟨lb, 0, none⟩ = some (.int .i64 kx) ∧ w'.cell? ⟨lb, 1, none⟩ = some (.int .i64 n) ∧ w'.cell? ⟨lb, 2, none⟩ = some (.int .i64 gx) ∧ w'.cell? ⟨lb, 3, none⟩ = some (.int .i64 ax)) ∧ w'.cell? ⟨g, c * 4, none⟩ = some (.int .i64 yk) ∧ w'.cell? ⟨g, c * 4 + 1, none⟩ = some (.int .i64 yn) ∧ w'.cell? ⟨g, c * 4 + 2, none⟩ = some (.int .i64 yg) ∧ w'.cell? ⟨g, c * 4 + 3, none⟩ = some (.int .i64 ya)) (fun j => [17].contains j) (by kernel_rfl) (HSL.out _ (Only.refl _ _).drew) (fun hHeld => ?_); obtain ⟨z3, hz3⟩ : ∃ x, x = wv.drew := ⟨_, rfl⟩; rw [← hz3] at hHeld ⊢; have hot : Hid (Only (fun _ => False) wv z3) := hid (by rw [hz3]; exact (Only.refl _ _).drew); have HZ0 : Hid (Only (fun x => x = g) wv z3) := hid (hot.out.mono (fun _ _ f => f.elim)); clear hz3; have HSWD := hid (own_swap4 HLN1.out.symm (by have h := HRWX.out _ hot.out; rw [HLN1.out] at h; exact h)); obtain ⟨⟨u0, u1, u2, u3⟩, s0, s1, s2, s3⟩ := own_cell4 (HRWX.out _ hot.out) (c + 1) rfl HM2.out.2; refine sho.lt 0 [1, 14, 15, 16, 17] ?_; refine sho.lt 1 [14, 15, 16, 17] ?_; refine sho.lt 2 [14, 15, 16, 17] ?_; refine sho.lt 3 [4, 16, 17] ?_; refine sho.lt 4 [16, 17] ?_; refine sho.lt 5 [6, 16, 17] ?_; refine sho.lt 6 [16, 17] ?_; refine sho.lt 7 [8, 11, 12, 14, 15, 16, 17] ?_; refine sho.lt 8 [11, 12, 14, 15, 16, 17] ?_; refine sho.lt 9 [10, 11, 12, 14, 15, 16, 17] ?_; refine sho.lt 10 [11, 12, 14, 15, 16, 17] ?_; refine sho.lt 11 [12, 14, 15, 16, 17] ?_; refine sho.lt 12 [14, 15, 16, 17] ?_; refine sho.lt 13 [16, 17] ?_; refine sho.lt 14 [15, 16, 17] ?_; refine late.ready (rs := [15]) (by kernel_rfl) (by simp) ?_; refine late.Each.cons rfl (fun K hK => ?_) late.Each.nil; (try simp only [getElem_toArray, getElem_cons_zero, getElem_cons_succ]); (go_simp); obtain ⟨W9, hW9⟩ : ∃ W, W = put4 z3 g (c + 1) ⟨yk, yn, yg, ya⟩ := ⟨_, rfl⟩; have hw9 := hW9; unfold put4 at hw9; dsimp only at hw9; rw [← hw9]; clear hw9; have HA9 := hid (own_put4 (HRWX.out _ hot.out) (c + 1) (⟨yk, yn, yg, ya⟩ : Lg) HM2.out.2); rw [← hW9] at HA9; have HW9 := hid hW9; clear hW9; have hot9 : Hid (Only (fun x => x = g) wv W9) := hid ((hot.out.mono (fun _ _ f => f.elim)).trans HA9.out.2); clear u0 u1 u2 u3 s0 s1 s2 s3; have hg9 : ((A' ++ (⟨yk, yn, yg, ya⟩ : Lg) :: (⟨kx, n, gx, ax⟩ : Lg) :: B).set (c + 1) (⟨yk, yn, yg, ya⟩ : Lg)).getD c default = ⟨yk, yn, yg, ya⟩ := by
                                            have h5 := HGA.out; simp only [List.getD] at h5 ⊢; rw [List.getElem?_set_ne (by omega)]; exact h5
                                          obtain ⟨⟨d0, d1, d2, d3⟩, r0, r1, r2, r3⟩ := own_cell4 HA9.out.1 c (by rw [List.length_set]) HM2.out.1; rw [hg9] at d0 d1 d2 d3; dsimp only at d0 d1 d2 d3; clear hg9; obtain ⟨b1, b2⟩ := HXC.out W9 hot9.out; refine hK.out _ _ (fun _ => ⟨b1, b2, d0, d1, d2, d3⟩) (fun hHeld1 => ?_); replace hHeld1 := hHeld1 rfl; clear hK K; clear hHeld hot HSL; (try simp only [getElem_toArray, getElem_cons_zero, getElem_cons_succ, Act.put, setIfInBounds_toArray, set_cons_zero, set_cons_succ]); refine sho.lt 16 [17] ?_; refine late.ready (rs := [17]) (by kernel_rfl) (by simp) ?_; refine late.Each.cons rfl (fun K hK => ?_) late.Each.nil; (try simp only [getElem_toArray, getElem_cons_zero, getElem_cons_succ]); (go_simp); obtain ⟨W10, hW10⟩ : ∃ W, W = put4 W9 g c ⟨kx, n, gx, ax⟩ := ⟨_, rfl⟩; have hw10 := hW10; unfold put4 at hw10; dsimp only at hw10; rw [← hw10]; clear hw10; have HSX := HSWD.out; rw [HALN.out, ← HW9.out, ← hW10] at HSX; have HO10 : Hid (Only (fun x => x = g) wv W10) := hid (HZ0.out.trans HSX.2); have HNX := hid HSX.1; clear HSX hW10 d0 d1 d2 d3 r0 r1 r2 r3 b1 b2; refine hK.out _ _ (fun h => by cases h) (fun _ => ?_); clear hK K; (try simp only [getElem_toArray, getElem_cons_zero, getElem_cons_succ, Act.put, setIfInBounds_toArray, set_cons_zero, set_cons_succ]); refine late.done (by kernel_rfl) ?_ _; refine NoPanic.normal ?_; have HEBN : Hid (EB w1.heap.size W10 q kind (.slice (some ⟨g, 0, none⟩) (D.length + 1) c6) (A' ++ (⟨kx, n, gx, ax⟩ : Lg) :: (⟨yk, yn, yg, ya⟩ : Lg) :: B)) := hid (by
                                            have hE := HEBV.out wv (Only.refl _ _); have hqg : ¬ q = g := fun e => HGL.out.2.2 e.symm; exact ⟨HO10.out.cell' hE.c0 hqg, HO10.out.cell' hE.c1 hqg, (HO10.out.frozen (p := ⟨q, 1, none⟩) (World.block_lt_of_cell? wv _ hE.c1) hqg).trans hE.f1, by
                                              have h5 := HNX.out; have h6 : (A' ++ (⟨kx, n, gx, ax⟩ : Lg) :: (⟨yk, yn, yg, ya⟩ : Lg) :: B).length = D.length + 1 := (by have h7 := HLN1.out; simp only [List.length_append, List.length_cons] at h7 ⊢; omega); unfold OwnR at h5 ⊢; rw [h6] at h5 ⊢; exact h5, hE.nq, hE.nb⟩)
                                          have HLBN : Hid (LB W10 lb ⟨kx, n, gx, ax⟩) := hid ((HLBZ.out.only HZW.out (fun f => f)).only HO10.out (fun e => HGL.out.2.1 (show lb = g from e).symm))
                                          have HON : Hid (Only (fun _ => False) w1 W10) := hid ((HOZ.out.trans HZW.out).then HO10.out (fun k hk e => by have e' : k = g := e; have := HGL.out.1; omega)); (go_wp2_with fail); go_roundw
                                          case rel => exact ⟨c, A', (⟨yk, yn, yg, ya⟩ : Lg) :: B, by go_num, HALN.out, HB', HEBN, HLBN, HLB2, HON⟩
                                          case measure => (simp [intOf])
                                      · have hb : ltB ⟨kx, n, gx, ax⟩ ⟨yk, yn, yg, ya⟩ = false := decide_eq_false hlt; rw [hb] at HRS; have hex := HFIN.out _ B HAB.out HLT.out (.inr ⟨_, by simp, hlt⟩); have HDN := hid hex.1; have HPN := hid hex.2.1; have HSN := hid hex.2.2; clear hb hlt HLT HAL2 HFIN HAB hex HB' HLN1 HALN
                                        as_aux_lemma =>
                                          (go_upto_region 32 with fail); refine wp_region_noPanic ?_; refine late.region (fun w' => w'.cell? ⟨q, 1, none⟩ = some (.slice (some ⟨g, 0, none⟩) (D.length + 1) c6) ∧ (w'.cell? ⟨lb, 0, none⟩ = some (.int .i64 kx) ∧ w'.cell? ⟨lb, 1, none⟩ = some (.int .i64 n) ∧ w'.cell? ⟨lb, 2, none⟩ = some (.int .i64 gx) ∧ w'.cell? ⟨lb, 3, none⟩ = some (.int .i64 ax)) ∧ w'.cell? ⟨g, c * 4, none⟩ = some (.int .i64 yk) ∧ w'.cell? ⟨g, c * 4 + 1, none⟩ = some (.int .i64 yn) ∧ w'.cell? ⟨g, c * 4 + 2, none⟩ = some (.int .i64 yg) ∧ w'.cell? ⟨g, c * 4 + 3, none⟩ = some (.int .i64 ya)) (fun j => [].contains j) (by kernel_rfl) (HCL.out _ (Only.refl _ _).drew) (fun hHeld => ?_); obtain ⟨z0, hz0⟩ : ∃ x, x = wz.drew := ⟨_, rfl⟩; rw [← hz0] at hHeld ⊢; have hot : Hid (Only (fun _ => False) wz z0) := hid (by rw [hz0]; exact (Only.refl _ _).drew); clear hz0; refine sho.lt 0 [1, 2, 3, 4, 5, 6, 7, 8, 9, 10, 11] ?_; refine sho.lt 1 [2, 3, 4, 5, 6, 7, 8, 9, 10, 11] ?_; refine sho.lt 2 [3, 4, 5, 6, 7, 8, 9, 10, 11] ?_; refine sho.lt 3 [10, 11] ?_; refine sho.lt 4 [5, 8, 9, 10, 11] ?_; refine sho.lt 5 [8, 9, 10, 11] ?_; refine sho.lt 6 [7, 8, 9, 10, 11] ?_; refine sho.lt 7 [8, 9, 10, 11] ?_; refine sho.lt 8 [9, 10, 11] ?_; refine sho.lt 9 [10, 11] ?_; refine late.ready (rs := [10]) (by kernel_rfl) (by simp) ?_; refine late.Each.cons rfl (fun K hK => ?_) late.Each.nil; (try simp only [getElem_toArray, getElem_cons_zero, getElem_cons_succ]); (go_simp); (go_at_call 68); (with_reducible refine (HRS.out _).mono ?_); rintro _ W1 ⟨rfl, ho⟩; replace hot := hid (hot.out.trans ho); clear ho; (try dsimp only); refine hK.out _ _ (fun _ => HCL.out _ hot.out) (fun hHeld1 => ?_); replace hHeld1 := hHeld1 rfl; clear hK K; (try simp only [getElem_toArray, getElem_cons_zero, getElem_cons_succ, Act.put, setIfInBounds_toArray, set_cons_zero, set_cons_succ]); refine sho.lt 11 [] ?_; refine late.done (by kernel_rfl) ?_ _; refine NoPanic.normal ?_; have HEBN := hid (HEBZ.out.quiet hot.out); have HON := hid (HOZ.out.trans hot.out); clear hHeld hot HEBZ HOZ HLBZ HEBY HCL HRS; (go_wp2_with fail); go_roundw
                                          case rel => exact ⟨s + 1, _, A' ++ [(⟨yk, yn, yg, ya⟩ : Lg)] ++ (⟨kx, n, gx, ax⟩ : Lg) :: B, by omega, by go_num, HDN, HPN, HSN, HEBN, HON⟩
                                          case measure => (simp [intOf]; omega)
                        · obtain rfl : s = 2 := (by omega); have HPN : Hid (D.Perm (cashL kind amount len ++ rawN kind amount gr (path.take (i + 1)))) := hid (by rw [HRN.out]; have := HPM.out; rwa [partL_two] at this); have HDN : Hid (D.length ≤ 2 * (i + 1) + 1) := hid (by have := HDL.out; omega); (go_wp2_with fail); go_roundw
                          case rel => exact ⟨i + 1, v, D, by omega, by go_num, HDN, HPN, HSO, HEBX, HOX⟩
                          case measure => simp [intOf]; omega
                    · obtain rfl : i = len := (by omega); have hnl : ¬ (i : Int) < i := (by omega); have HPN : Hid (D.Perm (rawL kind amount gr path)) := hid (by
                        have := HPM.out; rw [List.take_of_length_le (by rw [HL.out]; omega)] at this; unfold rawL; unfold cashL at this; rw [HL.out]; exact this)
                      (go_wp2_with fail); go_meet
                      exact ⟨v, D, HPN, HSO, HEBI, HOI⟩
                case rest =>
                  obtain ⟨v, D, HPM, HSO, HEBD, HOD⟩ := hcut; rename World => w5
                  clear HEB HO; have HIN : Hid (∀ l ∈ D, InL l) := hid (fun l hl => rawL_in kind amount gr HG.out HAM.out path (by rw [HL.out]; exact p2) HPI.out l (HPM.out.mem_iff.1 hl)); have hdl : D.length ≤ 20 := by
                    have h5 := HPM.out.length_eq; have h6 := rawL_len kind amount gr path; rw [HL.out] at h6; omega
                  obtain ⟨av, cv, hv, HRD⟩ : ∃ av cv, v = .slice av D.length cv ∧ Hid (ReadsL w5 av D.length D) := by
                    rcases HEBD.out.own.2 with ⟨hv, h0⟩ | ⟨g, cap', cur, hv, _⟩
                    · have hD : D = [] := List.eq_nil_of_length_eq_zero h0; subst hD; exact ⟨none, 0, hv, hid (ReadsL.nil _ _)⟩
                    · have h5 := HEBD.out.own; rw [hv] at h5; exact ⟨_, _, hv, hid (own_reads h5 (by omega) HIN.out)⟩
                  subst hv; have HVB : Hid (∀ x, av = some x → w1.heap.size ≤ x.block) := hid (fun x hx => (HEBD.out.nb x.block (by rw [hx]; rfl)).1); have HCK := hid (rcheck_any kind av D.length cv D w5 HRD.out); obtain ⟨ck, hck⟩ : ∃ x, chk kind D = x := ⟨_, rfl⟩; rw [hck] at HCK; have HCE := hid hck; obtain ⟨dl, hdl2⟩ : ∃ x, D.length = x := ⟨_, rfl⟩; rw [hdl2] at HCK; have HDE := hid hdl2; have HEBD2 := HEBD; rw [hdl2] at HEBD2; have b0 := HEBD2.out.c0; have b1 := HEBD2.out.c1; clear hck hdl2 HEBD hi hz0 hz1 hz2; (go_wp2_with fail); refine HCK.out.mono ?_; rintro _ w6 ⟨rfl, ho⟩; have HO6 := hid ho; have HOF : Hid (Only (fun _ => False) w1 w6) := hid (HOD.out.trans ho); obtain ⟨z0, z1, f0, f1⟩ := HRB.out w6 HOF.out; replace b0 := ho.cell' b0 (fun f => f); replace b1 := ho.cell' b1 (fun f => f); clear ho HCK; by_cases hc : ck = 0
                  · have hcz : (ck != 0) = false := (by simp [hc]); have HE := hid (set_two (x := .int .i64 kind) (y := .slice av dl cv) z0 z1); have HOE : Hid (Only (fun q => q = q0) w6 ((w6.setCell ⟨q0, 0, none⟩ (.int .i64 kind)).setCell ⟨q0, 1, none⟩ (.slice av dl cv))) := hid ((Only.set (fun q => q = q0) _ q0 0 _ rfl).trans (Only.set (fun q => q = q0) _ q0 1 _ rfl)); have HCZ : Hid (chk kind D = 0) := hid (by rw [HCE.out]; exact hc); clear hc; (go_wp2_with fail); refine bodyPost_ret (v := .tuple #[.agg #[.int .i64 kind, .slice av dl cv], .int .i64 0]) (by simp [results, Tryz.results28, go_sem, HE.out.1, HE.out.2]) rfl (rmf_yes HMK.out ⟨av, cv, D, HPM.out, HSO.out, (HO1.out.trans HOF.out).then HOE.out (fun q hq e => by have e' : q = q0 := e; have := HQ0.out.1; omega), ?_, .inl ⟨HCZ.out, by rw [HDE.out]⟩⟩); exact ⟨(HRD.out.only HO6.out (fun _ _ f => f)).only HOE.out (fun x hx e => by have e' : x.block = q0 := e; have := HVB.out x hx; have := HQ.out.2; omega), fun y hy => by have := HVB.out y hy; have := HO1.out.size; omega⟩
                  · have hcz : (ck != 0) = true := (by simp [hc]); have HE := hid (set_two (x := .int .i64 0) (y := .slice none 0 0) z0 z1); have HOE : Hid (Only (fun q => q = q0) w6 ((w6.setCell ⟨q0, 0, none⟩ (.int .i64 0)).setCell ⟨q0, 1, none⟩ (.slice none 0 0))) := hid ((Only.set (fun q => q = q0) _ q0 0 _ rfl).trans (Only.set (fun q => q = q0) _ q0 1 _ rfl)); have HCZ : Hid (chk kind D ≠ 0) := hid (by rw [HCE.out]; exact hc); clear hc; (go_wp2_with fail); refine bodyPost_ret (v := .tuple #[.agg #[.int .i64 0, .slice none 0 0], .int .i64 ck]) (by simp [results, Tryz.results28, go_sem, HE.out.1, HE.out.2]) rfl (rmf_yes HMK.out ⟨av, cv, D, HPM.out, HSO.out, (HO1.out.trans HOF.out).then HOE.out (fun q hq e => by have e' : q = q0 := e; have := HQ0.out.1; omega), ?_, .inr ⟨HCZ.out, by rw [HCE.out]⟩⟩); exact ⟨(HRD.out.only HO6.out (fun _ _ f => f)).only HOE.out (fun x hx e => by have e' : x.block = q0 := e; have := HVB.out x hx; have := HQ.out.2; omega), fun y hy => by have := HVB.out y hy; have := HO1.out.size; omega⟩
        · have hdec : (!decide (mkNo kind amount path = 0)) = true := (by simp [hmk]); have hone : mkNo kind amount path = 1 := by
            have e : mkNo kind amount path = if ¬ amB amount ∨ pathB path = false then 1 else 0 := by unfold mkNo; rw [HK.out, if_neg (by simp)]
            rw [e] at hmk ⊢; by_cases h1 : ¬ amB amount ∨ pathB path = false
            · rw [if_pos h1]
            · rw [if_neg h1] at hmk; omega
          have HF : Hid (∀ w', Only (fun _ => False) w w' → RMF kind amount gr path w (.returned (.tuple #[.agg #[.int .i64 0, .slice none 0 0], .int .i64 1])) w') := hid (fun w' ho => rmf_no hone (by omega) ho); rw [hdec]; clear hdec hone hmk hi hz0 hz1 hz2; obtain ⟨z0, z1, f0, f1⟩ := HRB.out w2 HO2.out; have HE := hid (set_two (x := .int .i64 0) (y := .slice none 0 0) z0 z1); have HOE : Hid (Only (fun q => q = q0) w2 ((w2.setCell ⟨q0, 0, none⟩ (.int .i64 0)).setCell ⟨q0, 1, none⟩ (.slice none 0 0))) := hid ((Only.set (fun q => q = q0) _ q0 0 _ rfl).trans (Only.set (fun q => q = q0) _ q0 1 _ rfl)); (go_wp2_with fail); refine bodyPost_ret (v := .tuple #[.agg #[.int .i64 0, .slice none 0 0], .int .i64 1]) (by simp [results, Tryz.results28, go_sem, HE.out.1, HE.out.2]) rfl (HF.out _ ((HO1.out.trans HO2.out).then HOE.out (fun q hq e => by have e' : q = q0 := e; have := HQ0.out.1; omega)))
end Go.Proofs.YtkbaafgaaiekpaaGreat.entw
namespace Go.Proofs.YtkbaafgaaiekpaaGreat.jnw
open Go.RowKit mem accm accn entw entm
set_option linter.unusedVariables false
def Box2 (w : World) (g : Nat) (x y : Value) (t : TypeId) : Prop := w.heap[g]? = some (.cells #[x, y] t (0, 0))
theorem Box2.new (w : World) (x y : Value) (t : TypeId) : Box2 (w.alloc (.cells #[x, y] t)) w.heap.size x y t := by unfold Box2; rw [heap_alloc, if_pos rfl]
theorem Box2.lt {w : World} {g : Nat} {x y : Value} {t : TypeId} (h : Box2 w g x y t) : g < w.heap.size := heap_lt h
theorem Box2.only {S : Nat → Prop} {w w' : World} {g : Nat} {x y : Value} {t : TypeId} (h : Box2 w g x y t) (ho : Only S w w') (hs : ¬ S g) : Box2 w' g x y t := (ho.block g h.lt hs).trans h
theorem Box2.cells {w : World} {g : Nat} {x y : Value} {t : TypeId} (h : Box2 w g x y t) : w.cell? ⟨g, 0, none⟩ = some x ∧ w.cell? ⟨g, 1, none⟩ = some y ∧ w.frozen? ⟨g, 0, none⟩ = false ∧ w.frozen? ⟨g, 1, none⟩ = false := by
  unfold Box2 at h; refine ⟨?_, ?_, ?_, ?_⟩ <;> simp [World.cell?, World.frozen?, h]
theorem Box2.set0 {w : World} {g : Nat} {x y : Value} {t : TypeId} (h : Box2 w g x y t) (u : Value) : Box2 (w.setCell ⟨g, 0, none⟩ u) g u y t := by
  obtain ⟨hlt, hk⟩ := Array.getElem?_eq_some_iff.1 h; show (w.heap.modify g _)[g]? = _; rw [Array.getElem?_eq_getElem (by rw [Array.size_modify]; exact hlt), Array.getElem_modify_self, hk]
  rfl
theorem Box2.set1 {w : World} {g : Nat} {x y : Value} {t : TypeId} (h : Box2 w g x y t) (u : Value) : Box2 (w.setCell ⟨g, 1, none⟩ u) g x u t := by
  obtain ⟨hlt, hk⟩ := Array.getElem?_eq_some_iff.1 h; show (w.heap.modify g _)[g]? = _; rw [Array.getElem?_eq_getElem (by rw [Array.size_modify]; exact hlt), Array.getElem_modify_self, hk]
  rfl
theorem Box2.set2 {w : World} {g : Nat} {x y : Value} {t : TypeId} (h : Box2 w g x y t) (u v : Value) : Box2 ((w.setCell ⟨g, 0, none⟩ u).setCell ⟨g, 1, none⟩ v) g u v t := (h.set0 u).set1 v
theorem set2_only (w : World) (g : Nat) (u v : Value) : Only (fun q => q = g) w ((w.setCell ⟨g, 0, none⟩ u).setCell ⟨g, 1, none⟩ v) := ((Only.refl (fun q => q = g) w).setCell (p := ⟨g, 0, none⟩) (.inl rfl) u).setCell (p := ⟨g, 1, none⟩) (.inl rfl) v
theorem readsL_keep {S : Nat → Prop} {w w' : World} {a : Option Addr} {n : Nat} {ls : List Lg} (h : ReadsL w a n ls) (ho : Only S w w') (hs : ∀ y, a = some y → 0 < n → ¬ S y.block) : ReadsL w' a n ls := by
  by_cases h0 : n = 0
  · exact ⟨h.1, h.2.1, h.2.2.1, .inl h0⟩
  · exact h.only ho (fun y e => hs y e (by omega))
theorem readsL_block {w : World} {a : Option Addr} {n : Nat} {ls : List Lg} (h : ReadsL w a n ls) {y : Addr} (e : a = some y) (hn : 0 < n) : y.block < w.heap.size := by
  obtain ⟨b, o, e2, hc⟩ := h.2.2.2.resolve_left (by omega); rw [e] at e2; injection e2 with e2; subst e2; exact World.block_lt_of_cell? w _ (hc 0 hn).1
end Go.Proofs.YtkbaafgaaiekpaaGreat.jnw
namespace Go.Proofs.YtkbaafgaaiekpaaGreat.jnw
open Go.RowKit mem accm accn entw entm acck
set_option linter.unusedVariables false
theorem info_ent : (Tryz.prog.info? 75).map (fun i => (i.zero, i.size, i.bytes)) = some (some (Value.agg #[.int .i64 0, .slice none 0 0]), 2, 32) := by kernel_rfl
theorem info_i64J : (Tryz.prog.info? 3).map (fun i => (i.zero, i.size, i.bytes)) = some (some (.int .i64 0), 1, 8) := by kernel_rfl
theorem step_entry {ops : Array Oper} {o : Oper} {a : Act} {w : World} {K : Act → World → Prop} {Q : Exit → Act → World → Prop} {E : Prop}
    (hg : o.guard = none) (s x : Operand) (ho : o.op = Op.call { callee := Callee.builtin Builtin.append, args := #[s, x], argTypes := #[45, 45] })
    (v : Value) (xs : List Es) (hs : a.eval s = v) (hown : OwnE w v xs) (g c : Nat) (d : Es) (hx : a.eval x = .slice (some ⟨g, 0, none⟩) 1 c) (hn : ∀ j u, (encE d)[j]? = some u → w.cell? ⟨g, j, none⟩ = some u) (hb : xs.length ≤ 20000)
    (hK : ∀ v' w', OwnE w' v' (xs ++ [d]) → w.grownBy w' v.ownBlock → (∀ k, v'.ownBlock = some k → v.ownBlock = some k ∨ w.heap.size ≤ k) → K (a.put o.dst v') w') :
    if Region.wanted o (yielded ops a.tmps) = true then Oper.wp Tryz.prog o a w K Q else E := by
  obtain ⟨i0, hi, hz0, hz1, hz2⟩ := info_parts info_ent; refine step_mine hg s x 45 ho 75 i0 _ 2 32 Tryz.underlying45 hi hz0 hz1 hz2 rfl (by decide) v xs.length _ hs hown ⟨g, 0, none⟩ 1 c (encE d) hx rfl (fun j u h => by rw [mem.add_none, Nat.zero_add]; exact hn j u h) (fun u hu => ev_one [d] u (by simpa [ev] using hu)) (by unfold maxLen; omega) (by omega) ?_; intro v' w' h1 h2 h3; refine hK v' w' ?_ h2 h3; unfold OwnE; rw [List.length_append, ev_append]; have e : ev [d] = encE d := (by simp [ev]); rw [e]; exact h1
theorem step_when {ops : Array Oper} {o : Oper} {a : Act} {w : World} {K : Act → World → Prop} {Q : Exit → Act → World → Prop} {E : Prop}
    (hg : o.guard = none) (s x : Operand) (ho : o.op = Op.call { callee := Callee.builtin Builtin.append, args := #[s, x], argTypes := #[37, 37] })
    (v : Value) (xs : List Int) (hs : a.eval s = v) (hown : OwnN w v xs) (g c : Nat) (d : Int) (hx : a.eval x = .slice (some ⟨g, 0, none⟩) 1 c) (hn : w.cell? ⟨g, 0, none⟩ = some (.int .i64 d)) (hb : xs.length ≤ 20000)
    (hK : ∀ v' w', OwnN w' v' (xs ++ [d]) → w.grownBy w' v.ownBlock → (∀ k, v'.ownBlock = some k → v.ownBlock = some k ∨ w.heap.size ≤ k) → K (a.put o.dst v') w') :
    if Region.wanted o (yielded ops a.tmps) = true then Oper.wp Tryz.prog o a w K Q else E := by
  obtain ⟨i0, hi, hz0, hz1, hz2⟩ := info_parts info_i64J; refine step_mine hg s x 37 ho 3 i0 _ 1 8 Tryz.underlying37 hi hz0 hz1 hz2 rfl (by decide) v xs.length _ hs hown ⟨g, 0, none⟩ 1 c (iv [d]) hx rfl (fun j u h => ?_) (fun u hu => by simp [iv] at hu; rw [hu]; rfl) (by unfold maxLen; omega) (by omega) ?_
  · cases j with
    | zero => rw [mem.add_none]; simp [iv] at h; rw [← h]; exact hn
    | succ j => simp [iv] at h
  · intro v' w' h1 h2 h3; refine hK v' w' ?_ h2 h3; unfold OwnN; rw [List.length_append]; have e : iv (xs ++ [d]) = iv xs ++ iv [d] := (by simp [iv]); rw [e]; exact h1
def overD (D : List Es) (l : Lg) : Prop := 1152921504606846976 < wrap64 (wrap64 (movD (lgA l) (-1) D) + l.a) ∨ wrap64 (wrap64 (movD (lgA l) (-1) D) + l.a) < -1152921504606846976
open Classical in
noncomputable def dErr (D : List Es) (kind : Int) (ls : List Lg) : Int := if chk kind ls ≠ 0 then chk kind ls else if ∃ j, j < ls.length ∧ overD D (ls.getD j default) then 6 else 0
end Go.Proofs.YtkbaafgaaiekpaaGreat.jnw
namespace Go.Proofs.YtkbaafgaaiekpaaGreat.lkc
open Go.RowKit mem accm accn entw entm acck jnw
set_option linter.unusedVariables false
def prE (D : List Es) : List (Nat × List Lg) := List.map (fun x : Es => (x.per, x.ls)) D
def prP (L : List Ps) : List (Nat × List Lg) := List.map (fun x : Ps => (x.per, x.ls)) L
structure Lk (op : Nat) (C : Ac → Option (List Int)) (L : List Ps) (D : List Es) : Prop where
  e : prP L = prE D
  v : ∀ a p, p < 32 → ((C a).getD noughts).getD p 0 = wrap64 (movD a (p : Int) D)
  le : ∀ x ∈ D, x.per ≤ op
theorem wrap_zero : wrap64 0 = 0 := by unfold wrap64; omega
theorem Lk.nil (op : Nat) : Lk op (fun _ => none) [] [] := ⟨rfl, fun a p hp => by rw [show movD a (p : Int) [] = 0 from rfl, wrap_zero]; exact rep_get 32 p, fun x hx => by cases hx⟩
theorem Lk.close {op : Nat} {C : Ac → Option (List Int)} {L : List Ps} {D : List Es} (h : Lk op C L D) : Lk (op + 1) C L D := ⟨h.e, h.v, fun x hx => by have := h.le x hx; omega⟩
theorem addC_get (op : Nat) (hop : op < 32) : ∀ (ls : List Lg) (C : Ac → Option (List Int)) (F : Ac → Nat → Int), (∀ a, ((C a).getD noughts).length = 32) → (∀ a p, p < 32 → ((C a).getD noughts).getD p 0 = wrap64 (F a p)) → ∀ a p, p < 32 → ((addC C op ls a).getD noughts).getD p 0 = wrap64 (F a p + if p = op then legSum a ls else 0) := by
  intro ls
  induction ls with
  | nil => intro C F _ h a p hp; simpa [addC, legSum] using h a p hp
  | cons l r ih =>
    intro C F hl h a p hp; have h1 := ih (updA C (lgA l) (rowAdd ((C (lgA l)).getD noughts) op l.a)) (fun a p => F a p + if p = op ∧ lgA l = a then l.a else 0) (updA_len hl (lgA l) op l.a) (fun b q hq => by
      unfold updA; by_cases e : b = lgA l
      · subst e; rw [if_pos rfl]; show (rowAdd _ op l.a).getD q 0 = _; unfold rowAdd; by_cases e2 : q = op
        · subst e2; have hlen := hl (lgA l); rw [if_pos ⟨rfl, rfl⟩]; have hv := h (lgA l) q hq; rw [List.getD_eq_getElem?_getD, List.getElem?_set_self (by omega)]; rw [hv]; show wrap64 (wrap64 _ + l.a) = _; unfold wrap64; omega
        · rw [if_neg (fun x => e2 x.1), Int.add_zero, ← h (lgA l) q hq]; simp only [List.getD]; rw [List.getElem?_set_ne (fun x => e2 x.symm)]
      · rw [if_neg e, if_neg (fun x => e x.2.symm), Int.add_zero]; exact h b q hq) a p hp
    show ((addC _ op r a).getD noughts).getD p 0 = _; rw [h1]; congr 1; show F a p + _ + _ = F a p + if p = op then (if lgA l = a then l.a else 0) + legSum a r else 0
    by_cases e : p = op
    · simp only [e, true_and, if_true]; omega
    · simp only [e, false_and, if_false]; omega
theorem Lk.add {op : Nat} (hop : op < 32) {C : Ac → Option (List Int)} {L : List Ps} {D : List Es} (h : Lk op C L D) (hr : ∀ a, ((C a).getD noughts).length = 32) (ls : List Lg) (kd : Int) (g n cp : Nat) (a2 : Option Addr) (n2 c2 : Nat) :
    Lk op (addC C op ls) (L ++ [⟨kd, g, n, cp, op, ls⟩]) (D ++ [⟨kd, a2, n2, c2, op, ls⟩]) := by
  refine ⟨?_, fun a p hp => ?_, fun x hx => ?_⟩
  · have := h.e; unfold prP prE at this ⊢; rw [List.map_append, List.map_append, this]
    rfl
  · rw [addC_get op hop ls C (fun a p => movD a (p : Int) D) hr h.v a p hp, movD_append]; congr 1; show _ = movD a (p : Int) D + ((if 0 ≤ (p : Int) ∧ (op : Int) ≠ (p : Int) then 0 else legSum a ls) + 0)
    by_cases e : p = op
    · rw [if_pos e, if_neg (by omega)]; omega
    · rw [if_neg e, if_pos (by omega)]; omega
  · rcases List.mem_append.1 hx with hx | hx
    · exact h.le x hx
    · rw [List.mem_singleton.1 hx]; exact Nat.le_refl _
def sumN (f : Nat → Int) : Nat → Int
  | 0 => 0
  | n + 1 => sumN f n + f n
theorem sumN_take (r : List Int) : ∀ k, k ≤ r.length → (r.take k).sum = sumN (fun p => r.getD p 0) k
  | 0, _ => by simp [sumN]
  | k + 1, h => by
    rw [List.take_succ_eq_append_getElem h, List.sum_append, sumN_take r k (by omega)]; show _ = sumN _ k + r.getD k 0; have : r.getD k 0 = r[k] := (by simp [List.getD, show k < r.length by omega]); rw [this]; simp
theorem sumN_mod {f g : Nat → Int} : ∀ n, (∀ p, p < n → (f p - g p) % 18446744073709551616 = 0) → (sumN f n - sumN g n) % 18446744073709551616 = 0
  | 0, _ => by simp [sumN]
  | n + 1, h => by
    have h1 := sumN_mod n (fun p hp => h p (by omega)); have h2 := h n (by omega); show (sumN f n + f n - (sumN g n + g n)) % _ = 0; omega
theorem sumN_add (f g : Nat → Int) : ∀ n, sumN (fun p => f p + g p) n = sumN f n + sumN g n
  | 0 => rfl
  | n + 1 => by
    show sumN (fun p => f p + g p) n + (f n + g n) = sumN f n + f n + (sumN g n + g n); rw [sumN_add f g n]; omega
theorem sumN_zero : ∀ n, sumN (fun _ => 0) n = 0
  | 0 => rfl
  | n + 1 => by show sumN (fun _ => 0) n + 0 = 0; rw [sumN_zero n]; rfl
theorem sumN_one (q : Nat) (s : Int) : ∀ n, sumN (fun p => if 0 ≤ (p : Int) ∧ (q : Int) ≠ (p : Int) then 0 else s) n = if q < n then s else 0
  | 0 => by simp [sumN]
  | n + 1 => by
    show sumN _ n + (if _ then 0 else s) = _
    rw [sumN_one q s n]; by_cases e : q = n
    · rw [if_neg (by omega), if_neg (by omega), if_pos (by omega)]; omega
    · rw [if_pos (show 0 ≤ (n : Int) ∧ (q : Int) ≠ (n : Int) from ⟨by omega, by omega⟩)]
      by_cases e2 : q < n
      · rw [if_pos e2, if_pos (show q < n + 1 by omega)]; omega
      · rw [if_neg e2, if_neg (show ¬ q < n + 1 by omega)]; omega
theorem sumN_mov (a : Ac) (n : Nat) : ∀ (D : List Es), (∀ x ∈ D, x.per < n) → sumN (fun p => movD a (p : Int) D) n = movD a (-1) D := by
  intro D
  induction D with
  | nil => intro _; exact sumN_zero n
  | cons x r ih =>
    intro h; have h1 : (fun p : Nat => movD a (p : Int) (x :: r)) = fun p : Nat => (if 0 ≤ (p : Int) ∧ (x.per : Int) ≠ (p : Int) then 0 else legSum a x.ls) + movD a (p : Int) r := rfl
    rw [h1, sumN_add, sumN_one, if_pos (h x (by simp)), ih (fun y hy => h y (List.mem_cons_of_mem _ hy))]; show _ = (if 0 ≤ (-1 : Int) ∧ _ then 0 else legSum a x.ls) + movD a (-1) r
    rw [if_neg (by omega)]
theorem Lk.bal {op : Nat} (hop : op < 32) {C : Ac → Option (List Int)} {L : List Ps} {D : List Es} (h : Lk op C L D) (a : Ac) (hr : ((C a).getD noughts).length = 32) : wrap64 (((C a).getD noughts).sum) = wrap64 (movD a (-1) D) := by
  have h1 := sumN_take ((C a).getD noughts) 32 (by omega); rw [List.take_of_length_le (by omega)] at h1; have h2 := sumN_mod (f := fun p => ((C a).getD noughts).getD p 0) (g := fun p => movD a (p : Int) D) 32 (fun p hp => by
    rw [h.v a p hp]; unfold wrap64; omega)
  rw [sumN_mov a 32 D (fun x hx => by have := h.le x hx; omega), ← h1] at h2; generalize ((C a).getD noughts).sum = u at *; generalize movD a (-1) D = v at *; unfold wrap64; omega
theorem Lk.err {op : Nat} (hop : op < 32) {C : Ac → Option (List Int)} {L : List Ps} {D : List Es} (h : Lk op C L D) (hr : ∀ a, ((C a).getD noughts).length = 32) (kd : Int) (ls : List Lg) : pErr C kd ls = dErr D kd ls := by
  have : ∀ l, overL C l ↔ overD D l := fun l => (by unfold overL overD; rw [h.bal hop (lgA l) (hr _)]); have h2 : (∃ j, j < ls.length ∧ overL C (ls.getD j default)) ↔ ∃ j, j < ls.length ∧ overD D (ls.getD j default) := ⟨fun ⟨j, h1, h2⟩ => ⟨j, h1, (this _).1 h2⟩, fun ⟨j, h1, h2⟩ => ⟨j, h1, (this _).2 h2⟩⟩; unfold pErr dErr; by_cases h3 : ∃ j, j < ls.length ∧ overL C (ls.getD j default)
  · rw [if_pos h3, if_pos (h2.1 h3)]
  · rw [if_neg h3, if_neg (fun x => h3 (h2.2 x))]
end Go.Proofs.YtkbaafgaaiekpaaGreat.lkc
namespace Go.Proofs.YtkbaafgaaiekpaaGreat.puw
open Go.RowKit mem entm
set_option linter.unusedVariables false
def fE (k gr E : Int) : Int := if E = 0 ∧ (k = 4 ∨ k = 6) ∧ ¬ (1 ≤ gr ∧ gr ≤ 8) then 1 else E
theorem fE_ne {k gr E : Int} (h : E ≠ 0) : fE k gr E = E := if_neg (fun e => h e.1)
theorem fE_ok {k gr E : Int} (h : ¬ ((k = 4 ∨ k = 6) ∧ ¬ (1 ≤ gr ∧ gr ≤ 8))) : fE k gr E = E := if_neg (fun e => h e.2)
theorem fE_bad {k gr : Int} (h : (k = 4 ∨ k = 6) ∧ ¬ (1 ≤ gr ∧ gr ≤ 8)) : fE k gr 0 = 1 := if_pos ⟨rfl, h⟩
theorem Good.grp {k m gr : Int} {path : List Int} (h : Good k m 1 path) (hg : ¬ ((k = 4 ∨ k = 6) ∧ ¬ (1 ≤ gr ∧ gr ≤ 8))) : Good k m gr path :=
  ⟨h.k, h.m, h.nd, h.len, h.ok, h.one, fun e => Decidable.byContradiction fun f => hg ⟨e, f⟩⟩
theorem Good.one' {k m gr : Int} {path : List Int} (h : Good k m gr path) : Good k m 1 path :=
  ⟨h.k, h.m, h.nd, h.len, h.ok, h.one, fun _ => by omega⟩
theorem raw_bad {k m gr : Int} {path : List Int} {ls : List Lg} (h : Good k m 1 path) (hg : (k = 4 ∨ k = 6) ∧ ¬ (1 ≤ gr ∧ gr ≤ 8)) (hp : ls.Perm (rawL k m gr path)) (hs : entw.Sorted ls) : chk k ls = 1 := by
  rw [raw_chk (by unfold isK; omega) h.m.1 h.m.2 h.nd ⟨h.len.1, by have := h.len.2; omega⟩ hp hs (entw.raw_one), if_neg]; rintro ⟨_, e⟩; unfold okG at e; omega
theorem PoNo.is {C : AcC → Option (List Int)} {k m gr : Int} {path : List Int} {er : Int} (hn : PoNo C k m gr path er) (h : Good k m 1 path) {B : Int} (hB : jnw.Bnd C B) (hb : B + 9007199254740992 ≤ 1152921504606846976) (hne : er ≠ 0) : er = fE k gr 0 := by
  by_cases hg : (k = 4 ∨ k = 6) ∧ ¬ (1 ≤ gr ∧ gr ≤ 8)
  · rw [fE_bad hg]; rcases hn with e | ⟨_, ls, h1, h2, ⟨h3, e⟩ | ⟨h3, e⟩⟩
    · exact absurd (e.trans h.mk0) hne
    · rw [e]; exact raw_bad h hg h1 h2
    · rw [raw_bad h hg h1 h2] at h3; exact absurd h3 (by decide)
  · exact absurd ((h.grp hg).no hB hb hn) hne
theorem PoYes.grp {C : AcC → Option (List Int)} {k m gr : Int} {path : List Int} {ls : List Lg} (hy : PoYes C k m gr path ls) (h : Good k m 1 path) : ¬ ((k = 4 ∨ k = 6) ∧ ¬ (1 ≤ gr ∧ gr ≤ 8)) := fun hg => by
  have := raw_bad h hg hy.2.1 hy.2.2.1; rw [hy.2.2.2.1] at this; exact absurd this (by decide)
theorem PoYes.same {C D : AcC → Option (List Int)} {k m gr : Int} {path : List Int} {ls lr : List Lg} (hy : PoYes C k m gr path ls) (hz : PoYes D k m gr path lr) : ls = lr :=
  entw.sorted_one (hy.2.1.trans hz.2.1.symm) hy.2.2.1 hz.2.2.1 (fun x hx y hy' => entw.raw_one x (hz.2.1.mem_iff.1 hx) y (hz.2.1.mem_iff.1 hy'))
theorem MvR.all {S : Nat → Prop} {w w' : World} {p pb pj : Nat} {A A' : List fnd.Ac} {op : Nat} {C : AcC → Option (List Int)} {L : List jnw.Ps} {kind m gr E : Int} {path : List Int} {e : Ending} (h : MvR S w p pb pj A op C L kind m gr path A' E e w') {B : Int} (hB : jnw.Bnd C B) (hb : B + 9007199254740992 ≤ 1152921504606846976) (hg : E = 0 → Good kind m 1 path) :
    e = .returned (.int .i64 (fE kind gr E)) ∧ Only S w w' ∧ ((fE kind gr E ≠ 0 ∧ Pu S w' p pb pj A op C L) ∨ (fE kind gr E = 0 ∧ ∃ (ls : List Lg) (x : jnw.Ps), PoYes C kind m gr path ls ∧ x.ls = ls ∧ x.kd = kind ∧ x.per = op ∧ Pu (fun q => S q ∨ w.heap.size ≤ q) w' p pb pj A' op (jnw.addC C op ls) (L ++ [x]) ∧ jnw.Bnd (jnw.addC C op ls) (B + 9007199254740992))) := by
  rcases h with ⟨er, h1, rfl, h3, h4, h5⟩ | ⟨h1, rfl, ls, x, h3, h4, h5, h6, h7, h8⟩
  · rcases h5 with rfl | ⟨hE, hno⟩
    · exact ⟨by rw [fE_ne h1], h4, .inl ⟨by rw [fE_ne h1]; exact h1, h3⟩⟩
    · have e := hno.is (hg hE) hB hb h1; rw [hE]; exact ⟨by rw [e], h4, .inl ⟨by rw [← e]; exact h1, h3⟩⟩
  · have hz : fE kind gr E = 0 := (by rw [fE_ok (h3.grp (hg h1))]; exact h1); exact ⟨by rw [hz], h8, .inr ⟨hz, ls, x, h3, h4, h5, h6, h7, hB.add (by omega) h7.opl h3.2.2.2.1⟩⟩
def dq (x : jnw.Es) : Int × Nat × List Lg := (x.kd, x.per, x.ls)
theorem nodU_memk (A : List fnd.Ac) (j k : Nat) : (j : Int) ∈ fnd.nodU A k ↔ j < k ∧ A.getD j fnd.zA ≠ fnd.zA := by
  unfold fnd.nodU; rw [List.mem_map]; constructor
  · rintro ⟨i, hi, e⟩; rw [List.mem_filter, List.mem_range] at hi; have : i = j := (by omega); subst this; exact ⟨hi.1, by simpa using hi.2⟩
  · rintro ⟨h1, h2⟩; exact ⟨j, by rw [List.mem_filter, List.mem_range]; exact ⟨h1, by simpa using h2⟩, rfl⟩
theorem nodU_nodupk (A : List fnd.Ac) (k : Nat) : (fnd.nodU A k).Nodup := by
  unfold fnd.nodU; rw [List.nodup_iff_pairwise_ne, List.pairwise_map]; refine ((List.nodup_iff_pairwise_ne.1 List.nodup_range).filter _).imp (fun {a b} h e => h (by omega))
theorem nodU_okk {A : List fnd.Ac} (hz : A.getD 0 fnd.zA = fnd.zA) {k : Nat} (hk : k ≤ 33) : ∀ n ∈ fnd.nodU A k, fnd.NodeOk n := fun n hn => by
  have h0 := fnd.nodU_in A k n hn; obtain ⟨j, rfl⟩ : ∃ j : Nat, n = (j : Int) := ⟨n.toNat, by omega⟩; have h1 := (nodU_memk A j k).1 hn; have h2 : j ≠ 0 := fun e => (by subst e; exact h1.2 hz); unfold fnd.NodeOk; omega
def fK (A : List fnd.Ac) (carry : List Int) (k : Nat) : List fnd.Ac × Int := rollF carry (A, 0) (fnd.nodU A (k + 1))
def pK (A : List fnd.Ac) (carry : List Int) (k : Nat) : List (Int × Int) := expN A carry (fnd.nodU A (k + 1))
theorem fK_zero {A : List fnd.Ac} (hA : fnd.Bok A) (carry : List Int) : fK A carry 0 = (A, 0) ∧ pK A carry 0 = [] := by
  have e : fnd.nodU A 1 = [] := by
    have := fnd.nodU_succ A 0; rw [if_neg (fun f => f hA.z)] at this; exact this
  unfold fK pK; rw [show (0 + 1 : Nat) = 1 from rfl, e]
  exact ⟨rfl, rfl⟩
theorem fK_ac {A : List fnd.Ac} (hA : fnd.Bok A) (carry : List Int) {k : Nat} (hk : k < 32) : fnd.acG (fK A carry k).1 ((k + 1 : Nat) : Int) = fnd.acG A ((k + 1 : Nat) : Int) := by
  have h := rollF_get carry (k + 1) (fnd.nodU A (k + 1)) A 0 hA.len (nodU_nodupk A _) (nodU_okk hA.z (by omega)); have hn : ¬ ((k + 1 : Nat) : Int) ∈ fnd.nodU A (k + 1) := fun e => (by have := (nodU_memk A (k + 1) (k + 1)).1 e; omega); rw [if_neg hn] at h; rw [acG4 (by omega), acG4 (by omega)]; exact h.2
theorem fK_bok {A : List fnd.Ac} (hA : fnd.Bok A) (carry : List Int) : ∀ k : Nat, fnd.Bok (fK A carry k).1
  | 0 => by rw [(fK_zero hA carry).1]; exact hA
  | k + 1 => by
    have ih := fK_bok hA carry k; have e : fnd.nodU A (k + 1 + 1) = if A.getD (k + 1) fnd.zA ≠ fnd.zA then fnd.nodU A (k + 1) ++ [((k + 1 : Nat) : Int)] else fnd.nodU A (k + 1) := fnd.nodU_succ A (k + 1)
    unfold fK; rw [e]; split
    · rw [rollF_snoc]; exact ih.rollA _ _
    · exact ih
theorem rolled_zero (c : Bool) : fnd.rolled fnd.zA c = fnd.zA := by cases c <;> rfl
theorem set_same {A : List fnd.Ac} {k : Nat} (hk : k < A.length) : A.set k (A.getD k fnd.zA) = A := by
  apply List.ext_getElem?; intro j; rw [List.getElem?_set]; by_cases e : k = j
  · subst e; rw [if_pos rfl, if_pos hk, List.getD_eq_getElem?_getD, List.getElem?_eq_getElem hk]; rfl
  · rw [if_neg e]
theorem fK_step {A : List fnd.Ac} (hA : fnd.Bok A) (carry : List Int) {k : Nat} (hk : k < 32) (n : Int) (hn : n = ((k + 1 : Nat) : Int)) :
    (fK A carry (k + 1)).1 = fnd.rollA (fK A carry k).1 n (carry.contains n) ∧ (fK A carry (k + 1)).2 = (fK A carry k).2 + fnd.rollN (fK A carry k).1 n (carry.contains n) ∧
    pK A carry (k + 1) = pK A carry k ++ (if 0 < fnd.rollN (fK A carry k).1 n (carry.contains n) then [(n, fnd.rollN (fK A carry k).1 n (carry.contains n))] else []) := by
  subst hn; have hno : fnd.NodeOk ((k + 1 : Nat) : Int) := (by unfold fnd.NodeOk; omega); have hac := fK_ac hA carry hk; have hb := fK_bok hA carry k; have hr : fnd.rollN (fK A carry k).1 ((k + 1 : Nat) : Int) (carry.contains ((k + 1 : Nat) : Int)) = fnd.goneN (fnd.acG A ((k + 1 : Nat) : Int)) (carry.contains ((k + 1 : Nat) : Int)) := by
    unfold fnd.rollN; rw [if_pos hno, hac]
  have e : fnd.nodU A (k + 1 + 1) = if A.getD (k + 1) fnd.zA ≠ fnd.zA then fnd.nodU A (k + 1) ++ [((k + 1 : Nat) : Int)] else fnd.nodU A (k + 1) := fnd.nodU_succ A (k + 1)
  have hok := fnd.acG_ok hA ((k + 1 : Nat) : Int); by_cases hz : A.getD (k + 1) fnd.zA = fnd.zA
  · rw [if_neg (fun f => f hz)] at e; have hg : fnd.acG A ((k + 1 : Nat) : Int) = fnd.zA := (by rw [acG4 (by omega)]; exact hz); have h0 : fnd.rollN (fK A carry k).1 ((k + 1 : Nat) : Int) (carry.contains ((k + 1 : Nat) : Int)) = 0 := by
      rw [hr, hg]; cases carry.contains ((k + 1 : Nat) : Int) <;> rfl
    have hA2 : fnd.rollA (fK A carry k).1 ((k + 1 : Nat) : Int) (carry.contains ((k + 1 : Nat) : Int)) = (fK A carry k).1 := by
      unfold fnd.rollA; have h9 : (fK A carry k).1.getD (k + 1) fnd.zA = fnd.zA := by
        have := hac; rw [acG4 (by omega), hg] at this; exact this
      rw [if_pos hno, hac, hg, rolled_zero, Int.toNat_natCast]; have h8 := set_same (A := (fK A carry k).1) (k := k + 1) (by rw [hb.len]; omega); rw [h9] at h8; exact h8
    refine ⟨?_, ?_, ?_⟩
    · rw [hA2]; unfold fK; rw [e]
    · rw [h0, Int.add_zero]; unfold fK; rw [e]
    · rw [h0, if_neg (by omega), List.append_nil]; unfold pK; rw [e]
  · rw [if_pos hz] at e; refine ⟨?_, ?_, ?_⟩
    · unfold fK; rw [e, rollF_snoc]
    · unfold fK; rw [e, rollF_snoc]
    · have e2 : pK A carry (k + 1) = pK A carry k ++ (if fnd.left (fnd.acG A ((k + 1 : Nat) : Int)) = 0 ∨ carry.contains ((k + 1 : Nat) : Int) = true then [] else [(((k + 1 : Nat) : Int), fnd.left (fnd.acG A ((k + 1 : Nat) : Int)))]) := by
        unfold pK; rw [e, expN_snoc]
      rw [e2, hr]; have hl := hok.2.2; by_cases hc : carry.contains ((k + 1 : Nat) : Int) = true
      · rw [if_pos (.inr hc), if_neg (by unfold fnd.goneN; rw [if_pos hc]; omega)]
      · have hgn : fnd.goneN (fnd.acG A ((k + 1 : Nat) : Int)) (carry.contains ((k + 1 : Nat) : Int)) = fnd.left (fnd.acG A ((k + 1 : Nat) : Int)) := (by unfold fnd.goneN; rw [if_neg hc]); rw [hgn]; by_cases h0 : fnd.left (fnd.acG A ((k + 1 : Nat) : Int)) = 0
        · rw [if_pos (.inl h0), if_neg (by omega)]
        · rw [if_neg (fun f => f.elim h0 hc), if_pos (by omega)]
def exQ (op : Nat) (p : Int × Int) : Int × Nat × List Lg := (5, op, exL p.1 p.2)
def mkX (p : Int × Int) : Xe := ⟨0, 0, p.1, p.2⟩
theorem Xs_mk (ps : List (Int × Int)) : Xs (ps.map mkX) = ps := by
  unfold Xs; rw [List.map_map]; have : (fun x : Xe => (x.n, x.av)) ∘ mkX = id := rfl; rw [this, List.map_id]
theorem flatP_X (ps : List (Int × Int)) : flatP ps = flatX (ps.map mkX) := by rw [flatX_P, Xs_mk]
theorem pK_sub (A : List fnd.Ac) (carry : List Int) (k : Nat) : ((pK A carry k).map Prod.fst).Nodup := (nodU_nodupk A (k + 1)).sublist (expN_sub A carry _)
theorem expN_amt {A : List fnd.Ac} (hA : fnd.Bok A) (carry : List Int) : ∀ ns : List Int, ∀ p ∈ expN A carry ns, 1 ≤ p.2 ∧ p.2 ≤ 9007199254740992
  | [], p, hp => by cases hp
  | n :: r, p, hp => by
    have e : expN A carry (n :: r) = (if fnd.left (fnd.acG A n) = 0 ∨ carry.contains n = true then [] else [(n, fnd.left (fnd.acG A n))]) ++ expN A carry r := by simp [expN]
    rw [e, List.mem_append] at hp; rcases hp with hp | hp
    · have hr := fnd.acG_ok hA n; have h1 := hr.2.2; have h2 := hr.left_M; by_cases h0 : fnd.left (fnd.acG A n) = 0 ∨ carry.contains n = true
      · rw [if_pos h0] at hp; cases hp
      · rw [if_neg h0, List.mem_singleton] at hp; rw [hp]; refine ⟨?_, h2⟩; have : ¬ fnd.left (fnd.acG A n) = 0 := fun f => h0 (.inl f); show 1 ≤ fnd.left (fnd.acG A n); omega
    · exact expN_amt hA carry r p hp
theorem pK_bnd {A : List fnd.Ac} (hA : fnd.Bok A) (carry : List Int) (k : Nat) {C : AcC → Option (List Int)} {B : Int} (h : jnw.Bnd C B) (hB : B ≤ 1152921504606846976) {op : Nat} (hop : op < 32) : jnw.Bnd (jnw.addC C op (flatP (pK A carry k))) (B + 9007199254740992) := by
  rw [flatP_X]; refine bnd_add h hB hop (flatX_nodup _ ?_) (flatX_amt (fun x hx => ?_))
  · rw [List.map_map]; exact pK_sub A carry k
  · obtain ⟨p, hp, rfl⟩ := List.mem_map.1 hx; exact expN_amt hA carry _ p hp
theorem row_add {op : Nat} : ∀ (ls : List Lg) {C : AcC → Option (List Int)}, (∀ a, (jnw.ror C a).length = 32) → ∀ a, (jnw.ror (jnw.addC C op ls) a).length = 32
  | [], C, h, a => h a
  | l :: r, C, h, a => row_add r (C := accn.updA C (jnw.lgA l) (jnw.rowAdd (jnw.ror C (jnw.lgA l)) op l.a)) (fun b => by
      rw [jnw.ror_upd]; split
      · unfold jnw.rowAdd; rw [List.length_set]; exact h _
      · exact h b) a
theorem Lk_rows {op : Nat} (hop : op < 32) : ∀ (ps : List (Int × Int)) (ys : List jnw.Ps) (zs : List jnw.Es) {C : AcC → Option (List Int)} {L : List jnw.Ps} {D : List jnw.Es}, lkc.Lk op C L D → (∀ a, (jnw.ror C a).length = 32) → ys.map pq = ps.map (exQ op) → zs.map dq = ps.map (exQ op) → lkc.Lk op (jnw.addC C op (flatP ps)) (L ++ ys) (D ++ zs)
  | [], ys, zs, C, L, D, h, hr, h1, h2 => by
    have e1 : ys = [] := (by cases ys with | nil => rfl | cons y r => exact absurd h1 (by simp)); have e2 : zs = [] := (by cases zs with | nil => rfl | cons y r => exact absurd h2 (by simp)); subst e1 e2; rw [List.append_nil, List.append_nil]; exact h
  | p :: r, [], zs, C, L, D, h, hr, h1, h2 => absurd h1 (by simp)
  | p :: r, y :: ys, [], C, L, D, h, hr, h1, h2 => absurd h2 (by simp)
  | p :: r, y :: ys, z :: zs, C, L, D, h, hr, h1, h2 => by
    rw [List.map_cons, List.map_cons, List.cons.injEq] at h1 h2; obtain ⟨yk, yg, yn, yc, yp, yl⟩ := y; obtain ⟨zk, za, zn, zc, zp, zl⟩ := z; obtain ⟨e1, e2⟩ := h1; obtain ⟨e3, e4⟩ := h2; unfold pq exQ at e1; unfold dq exQ at e3; simp only [Prod.mk.injEq] at e1 e3; obtain ⟨e11, e12, e13⟩ := e1; obtain ⟨e31, e32, e33⟩ := e3; subst yk yp yl zk zp zl; have h3 := h.add hop hr (exL p.1 p.2) 5 yg yn yc za zn zc; have h4 := Lk_rows hop r ys zs h3 (row_add (exL p.1 p.2) hr) e2 e4; have e5 : flatP (p :: r) = exL p.1 p.2 ++ flatP r := rfl; rw [e5, addC_app]; rw [List.append_assoc, List.append_assoc] at h4; exact h4
def GB (D : List jnw.Es) (op : Nat) (B : Int) : Prop := ∃ C L, lkc.Lk op C L D ∧ jnw.Bnd C B
theorem GB.err {D : List jnw.Es} {op : Nat} {B : Int} (h : GB D op B) (hop : op < 32) (hB : B + 9007199254740992 ≤ 1152921504606846976) {k : Int} {ls : List Lg} (hc : chk k ls = 0) : jnw.dErr D k ls = 0 := by
  obtain ⟨C, L, h1, h2⟩ := h; rw [← h1.err hop (fun a => (h2 a).1)]; exact h2.none hB hc
theorem GB.rows {A : List fnd.Ac} (hA : fnd.Bok A) (carry : List Int) (k : Nat) {D : List jnw.Es} {op : Nat} {B : Int} (h : GB D op B) (hop : op < 32) (hB : B ≤ 1152921504606846976) {zs : List jnw.Es} (hz : zs.map dq = (pK A carry k).map (exQ op)) : GB (D ++ zs) op (B + 9007199254740992) := by
  obtain ⟨C, L, h1, h2⟩ := h; refine ⟨_, L ++ zs.map (fun z => ⟨z.kd, 0, 0, 0, z.per, z.ls⟩), Lk_rows hop (pK A carry k) _ zs h1 (fun a => (h2 a).1) ?_ hz, pK_bnd hA carry k h2 hB hop⟩; rw [List.map_map, ← hz]
  rfl
end Go.Proofs.YtkbaafgaaiekpaaGreat.puw
