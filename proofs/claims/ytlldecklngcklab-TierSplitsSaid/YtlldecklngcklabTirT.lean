/- TierSplits's walk. -/
import Derived.Test.YtlldecklngcklabTirS
namespace Go.Proofs.Ytlldecklngcklab.tirw
open Go.RowKit mem tirm intm
set_option linter.unusedVariables false

set_option maxRecDepth 100000 in
set_option maxHeartbeats 4000000 in
theorem splits_any (G M B : Int) (a : Option Addr) (len cap : Nat) (ts : List Tr) (p n : Int) (w : World) (h : TiersR w a len cap ts) :
    Calls Try.prog 3 #[.agg #[.int .i64 G, .int .i64 M, .int .i64 B, .slice a len cap], .int .i64 p, .int .i64 n] w fun e w' => e = .returned (.bool true) ∧ Only (fun _ => False) w w' := by
  have HTM := Lib.hid (fun w' (ho : Only (fun _ => False) w w') => tame2_any G M B a len cap (min len 9) ts w' ⟨h.1.only ho (fun _ _ f => f), h.2⟩ rfl)
  have hl9 : (ts.take (min len 9)).length ≤ 9 := by rw [List.length_take]; omega
  have hsl : (splL G M B (ts.take (min len 9)) p n).length ≤ 1000 := by
    have hg : ∀ (l i q : Int) (t : List Tr), (gradF l i q t).length ≤ t.length := by
      intro l i q t
      induction t generalizing i q with
      | nil => simp [gradF]
      | cons x r ih =>
        unfold gradF
        dsimp only
        split
        all_goals split
        all_goals simp only [List.length_cons]
        all_goals first | exact Nat.succ_le_succ (ih _ _) | exact Nat.le_succ_of_le (ih _ _)
    unfold splL
    split
    · simp
    · split
      · simp
      · have := hg (p + n) 0 p (ts.take (min len 9))
        omega
  have HL9 := Lib.hid hl9
  have HSL := Lib.hid hsl
  clear hl9 hsl
  generalize ts.take (min len 9) = l' at *
  obtain ⟨W0, hW0⟩ : ∃ W0, W0 = w.alloc (.cells #[.int .i64 G, .int .i64 M, .int .i64 B, .slice a len cap] 24) := ⟨_, rfl⟩
  have HO0 : Hid (Only (fun _ => False) w W0) := Lib.hid (by rw [hW0]; exact (Only.refl _ w).alloc _)
  have HFT : Hid (Four W0 w.heap.size) := Lib.hid (by rw [hW0]; exact Four.new rfl)
  clear h
  go_enter Try.func3, Try.ntmps3
  go_wp2_with fail
  rw [← hW0]
  clear hW0
  refine (HTM.out _ HO0.out).mono ?_
  rintro _ w1 ⟨g, cp, rfl, hrd, ⟨hcp, hcx⟩, hg, ho⟩
  have HRD := Lib.hid hrd
  have HGG : Hid (w.heap.size < g) := Lib.hid (by
    obtain ⟨u0, hu0⟩ := HFT.out.1
    have h1 : w.heap.size < W0.heap.size := World.block_lt_of_cell? W0 _ hu0
    omega)
  have H1 := Lib.hid (HO0.out.trans ho)
  have HF1 := HFT.out.only ho (fun f => f)
  have HE := Lib.hid (HF1.set (.int .i64 G) (.int .i64 M) (.int .i64 B) (.slice (some ⟨g, 0, none⟩) l'.length cp))
  obtain ⟨⟨_, r0⟩, ⟨_, r1⟩, ⟨_, r2⟩, ⟨_, r3⟩, g0, g1, g2, g3⟩ := HF1
  obtain ⟨WA, hWA⟩ : ∃ WA, WA = (((w1.setCell ⟨w.heap.size, 0, none⟩ (.int .i64 G)).setCell ⟨w.heap.size, 1, none⟩ (.int .i64 M)).setCell ⟨w.heap.size, 2, none⟩ (.int .i64 B)).setCell ⟨w.heap.size, 3, none⟩ (.slice (some ⟨g, 0, none⟩) l'.length cp) := ⟨_, rfl⟩
  have HA : Hid (TarAt WA w.heap.size G M B (.slice (some ⟨g, 0, none⟩) l'.length cp) ∧ Only (fun q => q = w.heap.size) w1 WA) := Lib.hid (by rw [hWA]; exact ⟨⟨HE.out.1, HE.out.2.1, HE.out.2.2.1, HE.out.2.2.2.1⟩, HE.out.2.2.2.2⟩)
  have HRB : Hid (∀ w', Only (fun _ => False) WA w' → ReadsT w' (some ⟨g, 0, none⟩) l'.length l') := Lib.hid (fun w' ho' => (HRD.out.only HA.out.2 (fun y hy e => by injection hy with hy; subst hy; have e' : g = w.heap.size := e; have := HGG.out; omega)).only ho' (fun _ _ f => f))
  have HWA : Hid (Only (fun _ => False) w WA) := Lib.hid (H1.out.then HA.out.2 (fun q hq e => by have e' : q = w.heap.size := e; omega))
  have HTT := Lib.hid (tame2_any G M B (some ⟨g, 0, none⟩) l'.length cp (min l'.length 9) l' WA ⟨HRB.out WA (Only.refl _ _), hcp, hcx, fun e => by cases e⟩ rfl)
  have htk : l'.take (min l'.length 9) = l' := List.take_of_length_le (by have := HL9.out; omega)
  rw [htk] at HTT
  obtain ⟨a0, a1, a2, a3⟩ := HA.out.1
  rw [hWA] at a0 a1 a2 a3
  clear hrd hg ho htk hcp hcx
  go_wp2_with fail
  rw [← hWA]
  clear hWA a0 a1 a2 a3 r0 r1 r2 r3 g0 g1 g2 g3
  refine HTT.out.mono ?_
  rintro _ w2 ⟨g2, cp2, rfl, hrd2, _, _, ho2⟩
  obtain ⟨W2, hW2⟩ : ∃ W2, W2 = w2.alloc (.cells #[.int .i64 G, .int .i64 M, .int .i64 B, .slice (some ⟨g2, 0, none⟩) l'.length cp2] 24) := ⟨_, rfl⟩
  have H2 : Hid (Only (fun _ => False) WA W2) := Lib.hid (by rw [hW2]; exact ho2.alloc _)
  have HWS : Hid (TarAt W2 w2.heap.size G M B (.slice (some ⟨g2, 0, none⟩) l'.length cp2)) := Lib.hid (by rw [hW2]; exact ⟨alloc_new _ _ _ _ _ _ rfl rfl, alloc_new _ _ _ _ _ _ rfl rfl, alloc_new _ _ _ _ _ _ rfl rfl, alloc_new _ _ _ _ _ _ rfl rfl⟩)
  have HR2 : Hid (ReadsT W2 (some ⟨g2, 0, none⟩) l'.length l') := Lib.hid (by rw [hW2]; exact hrd2.only ((Only.refl (fun _ => False) _).alloc _) (fun _ _ f => f))
  obtain ⟨a0, a1, a2, a3⟩ := HA.out.1.only H2.out (fun f => f)
  rw [hW2] at a0 a1 a2 a3
  clear hrd2 ho2 HTT HTM
  go_wp2_with fail
  rw [← hW2]
  clear hW2 a0 a1 a2 a3
  refine (split_any G M B (some ⟨g, 0, none⟩) l'.length cp l' p n W2 (HRB.out W2 H2.out)).mono ?_
  rintro _ w3 ⟨al, cl, rfl, hnl, h3⟩
  have H3 := Lib.hid h3
  have HNL := Lib.hid hnl
  clear h3 hnl
  obtain ⟨a0, a1, a2, a3⟩ := HA.out.1.only (H2.out.trans H3.out) (fun f => f)
  go_wp2_with fail
  refine (rsplit_any G M B (some ⟨g, 0, none⟩) l'.length cp l' p n w3 (HRB.out w3 (H2.out.trans H3.out))).mono ?_
  rintro _ w4 ⟨am, cm, rfl, hnm, h4⟩
  have H4 := Lib.hid (H3.out.trans h4)
  have HNL4 := Lib.hid (HNL.out.only h4 (fun _ _ f => f))
  have HNM := Lib.hid hnm
  clear h4 hnm a0 a1 a2 a3
  generalize splE G M B l' p n = er at *
  generalize splL G M B l' p n = sl at *
  have HS : Hid (∀ w', Only (fun _ => False) w4 w' → Only (fun _ => False) w4 w' ∧ (w'.cell? ⟨w.heap.size, 0, none⟩ = some (.int .i64 G) ∧ w'.cell? ⟨w.heap.size, 1, none⟩ = some (.int .i64 M) ∧ w'.cell? ⟨w.heap.size, 2, none⟩ = some (.int .i64 B) ∧ w'.cell? ⟨w.heap.size, 3, none⟩ = some (.slice (some ⟨g, 0, none⟩) l'.length cp)) ∧ (w'.cell? ⟨w2.heap.size, 0, none⟩ = some (.int .i64 G) ∧ w'.cell? ⟨w2.heap.size, 1, none⟩ = some (.int .i64 M) ∧ w'.cell? ⟨w2.heap.size, 2, none⟩ = some (.int .i64 B) ∧ w'.cell? ⟨w2.heap.size, 3, none⟩ = some (.slice (some ⟨g2, 0, none⟩) l'.length cp2))) := Lib.hid (fun w' ho => ⟨ho, HA.out.1.only (H2.out.trans (H4.out.trans ho)) (fun f => f), HWS.out.only (H4.out.trans ho) (fun f => f)⟩)
  have HIX : Hid (∀ m w', Only (fun _ => False) w4 w' → Calls Try.prog 20 #[.agg #[.int .i64 G, .int .i64 M, .int .i64 B, .slice (some ⟨g, 0, none⟩) l'.length cp], .int .i64 m] w' fun e w'' => e = .returned (.int .i64 (idxA G M B l' m)) ∧ Only (fun _ => False) w' w'') := Lib.hid (fun m w' ho => Index_any G M B _ l'.length cp l' m w' (HRB.out w' (H2.out.trans (H4.out.trans ho))))
  have HRX : Hid (∀ m w', Only (fun _ => False) w4 w' → Calls Try.prog 21 #[.agg #[.int .i64 G, .int .i64 M, .int .i64 B, .slice (some ⟨g, 0, none⟩) l'.length cp], .int .i64 m] w' fun e w'' => e = .returned (.int .i64 (idxA G M B l' m)) ∧ Only (fun _ => False) w' w'') := Lib.hid (fun m w' ho => rIndex_any G M B _ l'.length cp l' m w' (HRB.out w' (H2.out.trans (H4.out.trans ho))))
  have HLS : Hid (∀ w', Only (fun _ => False) w4 w' → Calls Try.prog 19 #[.slice al sl.length cl, .slice am sl.length cm] w' fun e w'' => e = .returned (.bool true) ∧ Only (fun _ => False) w' w'') := Lib.hid (fun w' ho => lsame_yes al am sl.length cl cm sl w' (HNL4.out.only ho (fun _ _ f => f)) (HNM.out.only ho (fun _ _ f => f)) HSL.out)
  have HTS : Hid (∀ w', Only (fun _ => False) w4 w' → Calls Try.prog 22 #[.agg #[.int .i64 G, .int .i64 M, .int .i64 B, .slice (some ⟨g, 0, none⟩) l'.length cp], .agg #[.int .i64 G, .int .i64 M, .int .i64 B, .slice (some ⟨g2, 0, none⟩) l'.length cp2]] w' fun e w'' => e = .returned (.bool true) ∧ Only (fun _ => False) w' w'') := Lib.hid (fun w' ho => tsame_yes G M B _ _ l'.length cp cp2 l' w' (HRB.out w' (H2.out.trans (H4.out.trans ho))) (HR2.out.only (H4.out.trans ho) (fun _ _ f => f)) (by have := HL9.out; omega))
  generalize hip : idxA G M B l' p = ip at *
  generalize hin : idxA G M B l' n = iq at *
  have HI1 : Hid (∀ w', Only (fun _ => False) w4 w' → Calls Try.prog 20 #[.agg #[.int .i64 G, .int .i64 M, .int .i64 B, .slice (some ⟨g, 0, none⟩) l'.length cp], .int .i64 p] w' fun e w'' => e = .returned (.int .i64 ip) ∧ Only (fun _ => False) w' w'') := Lib.hid (fun w' ho => by rw [← hip]; exact HIX.out p w' ho)
  have HI2 : Hid (∀ w', Only (fun _ => False) w4 w' → Calls Try.prog 20 #[.agg #[.int .i64 G, .int .i64 M, .int .i64 B, .slice (some ⟨g, 0, none⟩) l'.length cp], .int .i64 n] w' fun e w'' => e = .returned (.int .i64 iq) ∧ Only (fun _ => False) w' w'') := Lib.hid (fun w' ho => by rw [← hin]; exact HIX.out n w' ho)
  have HI3 : Hid (∀ w', Only (fun _ => False) w4 w' → Calls Try.prog 21 #[.agg #[.int .i64 G, .int .i64 M, .int .i64 B, .slice (some ⟨g, 0, none⟩) l'.length cp], .int .i64 p] w' fun e w'' => e = .returned (.int .i64 ip) ∧ Only (fun _ => False) w' w'') := Lib.hid (fun w' ho => by rw [← hip]; exact HRX.out p w' ho)
  have HI4 : Hid (∀ w', Only (fun _ => False) w4 w' → Calls Try.prog 21 #[.agg #[.int .i64 G, .int .i64 M, .int .i64 B, .slice (some ⟨g, 0, none⟩) l'.length cp], .int .i64 n] w' fun e w'' => e = .returned (.int .i64 iq) ∧ Only (fun _ => False) w' w'') := Lib.hid (fun w' ho => by rw [← hin]; exact HRX.out n w' ho)
  clear HIX HRX hip hin
  obtain ⟨_, ⟨a0, a1, a2, a3⟩, d0, d1, d2, d3⟩ := HS.out w4 (Only.refl _ _)
  go_wp2_with fail
  go_region_held3 (fun w' => Only (fun _ => False) w4 w' ∧ (w'.cell? ⟨w.heap.size, 0, none⟩ = some (.int .i64 G) ∧ w'.cell? ⟨w.heap.size, 1, none⟩ = some (.int .i64 M) ∧ w'.cell? ⟨w.heap.size, 2, none⟩ = some (.int .i64 B) ∧ w'.cell? ⟨w.heap.size, 3, none⟩ = some (.slice (some ⟨g, 0, none⟩) l'.length cp)) ∧ (w'.cell? ⟨w2.heap.size, 0, none⟩ = some (.int .i64 G) ∧ w'.cell? ⟨w2.heap.size, 1, none⟩ = some (.int .i64 M) ∧ w'.cell? ⟨w2.heap.size, 2, none⟩ = some (.int .i64 B) ∧ w'.cell? ⟨w2.heap.size, 3, none⟩ = some (.slice (some ⟨g2, 0, none⟩) l'.length cp2)))
    ((refine HS.out _ ?_; first | exact (Only.refl _ _).drew | exact Only.refl _ _ | exact ((Only.refl _ _).drew).trans ho | (go_split_ands; exact Only.trans (by assumption) ho)))
    (first | (go_at_call 18; (with_reducible refine (tiers_any _).mono ?_); rintro _ wn ⟨rfl, ho⟩) | (go_at_call 19; (with_reducible refine (HLS.out _ (by go_split_ands; assumption)).mono ?_); rintro _ wn ⟨rfl, ho⟩) | (go_at_call 20; (with_reducible refine (HI1.out _ (by go_split_ands; assumption)).mono ?_); rintro _ wn ⟨rfl, ho⟩) | (go_at_call 21; (with_reducible refine (HI3.out _ (by go_split_ands; assumption)).mono ?_); rintro _ wn ⟨rfl, ho⟩) | (go_at_call 20; (with_reducible refine (HI2.out _ (by go_split_ands; assumption)).mono ?_); rintro _ wn ⟨rfl, ho⟩) | (go_at_call 21; (with_reducible refine (HI4.out _ (by go_split_ands; assumption)).mono ?_); rintro _ wn ⟨rfl, ho⟩) | (go_at_call 22; (with_reducible refine (HTS.out _ (by go_split_ands; assumption)).mono ?_); rintro _ wn ⟨rfl, ho⟩))
  all_goals (have HFF : Hid (Only (fun _ => False) w4 wn) := Lib.hid (by go_split_ands; assumption); (try go_wp2_with fail); go_ret; exact ⟨rfl, HWA.out.trans (H2.out.trans (H4.out.trans HFF.out))⟩)
theorem splits_walk (G M B : Int) (a : Option Addr) (len cap : Nat) (ts : List Tr) (p n : Int) (w : World) (h : TiersR w a len cap ts) :
    Calls Try.prog 3 #[.agg #[.int .i64 G, .int .i64 M, .int .i64 B, .slice a len cap], .int .i64 p, .int .i64 n] w fun e w' => e = .returned (.bool true) ∧ Below w.heap.size w w' :=
  (splits_any G M B a len cap ts p n w h).mono fun _ _ ⟨h1, h2⟩ => ⟨h1, h2.none⟩
end Go.Proofs.Ytlldecklngcklab.tirw
