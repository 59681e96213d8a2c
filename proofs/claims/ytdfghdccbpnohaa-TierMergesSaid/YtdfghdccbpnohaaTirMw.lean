/- Lines: Merge's walk. -/
import Derived.Test.YtdfghdccbpnohaaTirMg
import Derived.Test.YtdfghdccbpnohaaTirE
namespace Go.Proofs.Ytdfghdccbpnohaa.tirw
open Go.RowKit mem tirm intm bigm bigw
set_option linter.unusedVariables false

theorem ReadsN.dropA {w : World} {a : Option Addr} {len : Nat} {ls : List Ln} (h : ReadsN w a len ls) (n : Nat) (hn : n ≤ len) (h0 : 0 < len) : ∃ b off, a = some ⟨b, off, none⟩ ∧ ReadsN w (some ⟨b, off + n * 3, none⟩) (len - n) (ls.drop n) := by
  rcases h.2 with e | ⟨b, off, rfl, hc⟩
  · omega
  · exact ⟨b, off, rfl, h.drop n hn⟩

def slLen : Value → Nat
  | .slice _ n _ => n
  | _ => 0
theorem drop_head (S : List Ln) (k : Nat) : (S.drop k).getD 0 default = S.getD k default := by simp [List.getD]

set_option maxRecDepth 100000 in
set_option maxHeartbeats 1500000 in
theorem merge_any (a1 a2 : Option Addr) (n1 n2 c1 c2 : Nat) (la lb : List Ln) (w : World) (h1 : ReadsN w a1 n1 la) (h2 : ReadsN w a2 n2 lb) (hn1 : n1 ≤ 10000) (hn2 : n2 ≤ 10000) (hi1 : LnsI la) (hi2 : LnsI lb) :
    Calls Try.prog 5 #[.slice a1 n1 c1, .slice a2 n2 c2] w (MergedAt (la ++ lb) w) := by
  obtain ⟨i0, hi, hz0, hz1, hz2⟩ := info_parts info_line
  have hal : (la ++ lb).length ≤ 20000 := by rw [List.length_append, h1.1, h2.1]; omega
  have hai : LnsI (la ++ lb) := fun x hx => (List.mem_append.1 hx).elim (hi1 x) (hi2 x)
  obtain ⟨w0, hw0⟩ : ∃ w0, w0 = w.alloc (.cells #[.slice a1 n1 c1, .slice a2 n2 c2] 22) := ⟨_, rfl⟩
  have HO0 : Hid (Only (fun _ => False) w w0) := Lib.hid (by rw [hw0]; exact (Only.refl _ w).alloc _)
  have HCC := Lib.hid (concat_any w.heap.size a1 a2 n1 n2 c1 c2 la lb w0 (h1.only HO0.out (fun _ _ f => f)) (h2.only HO0.out (fun _ _ f => f)) (by omega) (by omega) (by rw [hw0]; exact alloc_new _ _ _ _ _ _ rfl rfl) (by rw [hw0]; exact alloc_new _ _ _ _ _ _ rfl rfl))
  have HAI := Lib.hid hai
  have HAL := Lib.hid hal
  clear h1 h2 hi1 hi2 hal hai
  generalize la ++ lb = all at *
  go_enter Try.func5, Try.ntmps5
  go_wp2_with fail
  rw [← hw0]
  clear hw0
  refine HCC.out.mono ?_
  rintro _ w1 ⟨v, rfl, hv, hbk, ho1⟩
  obtain ⟨a, cap, rfl, _, hcap⟩ := own_readsN hv
  have HSO := Lib.hid (sort_own a cap all w1 hv (by have := HAL.out; omega))
  have HB : Hid (∀ x, a = some x → w.heap.size ≤ x.block ∧ x.block < w1.heap.size) := Lib.hid (fun x hx => by
    subst hx
    have h5 := HO0.out.size
    have h6 := hbk x.block rfl
    exact ⟨by omega, (World.ownsRow.lt hv x.block rfl).2⟩)
  have HO1 := Lib.hid (HO0.out.trans ho1)
  have hcm : cap ≤ 9223372036854775807 := by
    rcases hv.2 with ⟨e, _⟩ | ⟨g, cp, cur, e, _, _, _, hm, _⟩
    · injection e with e1 e2 e3; omega
    · injection e with e1 e2 e3; unfold maxLen at hm; omega
  clear hv hbk ho1 HCC
  go_wp2_with fail
  refine HSO.out.mono ?_
  rintro _ w2 ⟨S, rfl, hperm, hsort, hrd, hon⟩
  have HP := Lib.hid hperm
  have HSD := Lib.hid hsort
  have hsl : all.length = S.length := hperm.length_eq.symm
  have HRS : Hid (ReadsN w2 a S.length S) := Lib.hid (by rw [← hsl]; exact hrd)
  have HO2 : Hid (Only (fun _ => False) w w2) := Lib.hid (HO1.out.then hon (fun q hq e => by
    cases a with
    | none => cases e
    | some x =>
      have e2 : x.block = q := by simpa [addrBlock] using e
      have := (HB.out x rfl).1
      omega))
  have HSI : Hid (LnsI S) := Lib.hid (fun x hx => HAI.out x (hperm.mem_iff.1 hx))
  have hs2 : S.length ≤ 20000 := by rw [← hsl]; exact HAL.out
  rw [hsl] at hcap ⊢
  have HB2 : Hid (∀ x, a = some x → w.heap.size ≤ x.block ∧ x.block < w2.heap.size) := Lib.hid (fun x hx => by
    have := HB.out x hx
    have := hon.size
    omega)
  clear hperm hsort hrd hon HSO hsl HB HO1
  go_wp2_with fail
  go_loopw [6, 7] (fun lv sv wr => ∃ (k m : Nat) (a' : Option Addr) (cap' : Nat) (M : List Ln) (mv : Value), k + m = S.length ∧ lv = .slice a' m cap' ∧ mv = sv ∧ m ≤ cap' ∧ cap' ≤ 9223372036854775807 ∧ Hid (ReadsN w2 a' m (S.drop k)) ∧ Hid (MergeOf (S.take k) M) ∧ Hid (∀ x ∈ S.take k, ∀ y ∈ S.drop k, ltN x y) ∧ Hid (∀ x ∈ M, isInt x.b = true) ∧ M.length ≤ k ∧ Hid (OwnN wr mv M) ∧ Hid (∀ q, mv.ownBlock = some q → w2.heap.size ≤ q) ∧ Hid (Only (fun _ => False) w2 wr)) (fun lv _ _ => slLen lv)
  case atStart => exact ⟨0, S.length, a, cap, [], _, by omega, rfl, rfl, hcap, hcm, HRS, Lib.hid MergeOf.nil, Lib.hid (fun x hx => by simp at hx), Lib.hid (fun x hx => by simp at hx), by simp, Lib.hid (OwnN.nil _), Lib.hid (fun q e => by cases e), Lib.hid (Only.refl _ _)⟩
  case round =>
    obtain ⟨k, m, a', cap', M, mv, hkm, rfl, rfl, hmc, hcx, HR, HM, HLT, HIN, hml, HOW, HBK, HO⟩ := hrel
    by_cases h8 : m = 0
    · subst h8
      obtain ⟨av, cv, rfl, _, _⟩ := own_readsN HOW.out
      have HF : Hid (MergedAt all w (.returned (.tuple #[.slice av M.length cv, .bool true])) wr) := Lib.hid (by
        have hm2 := HM.out
        rw [List.take_of_length_le (by omega)] at hm2
        have hm3 := hm2.perm HP.out
        obtain ⟨av2, cv2, hv2, hrd2, _⟩ := own_readsN HOW.out
        injection hv2 with e1 e2 e3
        subst e1
        refine .inl ⟨okM_of hm3 HIN.out, M, av, cv, rfl, hm3, hrd2, fun x hx => ?_, HO2.out.trans HO.out⟩
        have h5 := HBK.out x.block (by rw [hx]; rfl)
        have h6 := HO2.out.size
        omega)
      generalize M.length = ml at *
      go_wp2_with fail
      go_ret2
      exact HF.out
    · obtain ⟨b, off, rfl, _⟩ := HR.out.2.resolve_left (by omega)
      have hk : k < S.length := by omega
      have HRW := Lib.hid (fun w' (ho : Only (fun _ => False) wr w') => HR.out.only (HO.out.trans ho) (fun _ _ f => f))
      have HAK := Lib.hid (alike_any b off m cap' (S.drop k) wr (HRW.out wr (Only.refl _ _)) (by omega) (by omega))
      have HMR := Lib.hid (merge_round HSD.out hk HM.out HLT.out)
      rw [drop_head] at HAK
      have hn1 := alkF_pos hk
      have hn2 := alkF_le (S.getD k default) (S.drop k)
      rw [List.length_drop] at hn2
      dsimp only at HMR
      have hcc := HR.out.2.resolve_left (by omega)
      obtain ⟨b', off', hb', hcell⟩ := hcc
      injection hb' with hb'
      injection hb' with hb1 hb2
      subst hb1 hb2
      obtain ⟨q0, q1, q2⟩ := hcell 0 (by omega)
      have hdh := drop_head S k
      rw [hdh, Nat.zero_mul, Nat.add_zero] at q0 q1 q2
      have HQ := Lib.hid (And.intro q0 q2)
      clear hcell q0 q1 q2 hdh
      have HGI : Hid (LnsI ((S.drop k).take (alkF (S.getD k default) (S.drop k)))) := Lib.hid (fun y hy => HSI.out y (List.mem_of_mem_drop (List.mem_of_mem_take hy)))
      generalize alkF (S.getD k default) (S.drop k) = n at *
      generalize S.getD k default = x at *
      obtain ⟨xt, xb, xp⟩ := x
      have HBL : Hid (∀ w', Only (fun _ => False) wr w' → Calls Try.prog 9 #[.slice (some ⟨b, off, none⟩) n cap'] w' (BlocksAt ((S.drop k).take n) w')) := Lib.hid (fun w' ho => blocks_any _ n cap' _ w' ((HRW.out w' ho).take n (by omega)) HGI.out (by omega))
      unfold BlocksAt at HBL
      have hnm : n ≤ m := by omega
      have hnc : (n : Int) ≤ (cap' : Int) := by omega
      have hn0 : (0 : Int) ≤ (n : Int) := by omega
      have hm0 : (0 : Int) < (m : Int) := by omega
      have hnm2 : (n : Int) ≤ (m : Int) := by omega
      go_wp2_with fail
      refine HAK.out.mono ?_
      rintro _ w3 ⟨rfl, h3⟩
      have H3 := Lib.hid h3
      clear h3
      go_wp2_with fail
      refine (HBL.out _ H3.out).mono ?_
      rintro _ w4 ⟨rfl, h4⟩
      have H4 := Lib.hid (H3.out.trans h4)
      clear h4 HBL HAK
      generalize hsum : sumB ((S.drop k).take n) = sm at *
      cases hii : isInt sm with
      | false =>
        have HF : Hid (MergedAt all w (.returned (.tuple #[.slice none 0 0, .bool false])) w4) := Lib.hid (by
          refine .inr ⟨fun hok => ?_, rfl, HO2.out.trans (HO.out.trans H4.out)⟩
          have := (okM_perm HP.out).2 hok _ HMR.out.2.2.2
          rw [HMR.out.2.2.1, hii] at this
          cases this)
        generalize intOr sm = m2 at *
        clear hii
        go_wp2_with fail
        go_ret2
        exact HF.out
      | true =>
        have e : intOr sm = sm := by unfold intOr; rw [hii]; rfl
        rw [e]
        have HII := Lib.hid hii
        clear e hii hsum
        have p0 := (HO.out.trans H4.out).cell' HQ.out.1 (fun f => f)
        have p2 := (HO.out.trans H4.out).cell' HQ.out.2 (fun f => f)
        have HOWN : Hid (∀ w', Only (fun _ => False) w4 w' → w'.ownsRow 0 32 3 mv M.length (lvn M)) := Lib.hid (fun w' ho => HOW.out.only (H4.out.trans ho) (fun _ _ f => f))
        have hml1 : M.length + 1 ≤ maxLen := by unfold maxLen; omega
        have hml2 : (M.length + 1) * 24 ≤ 140737488355328 := by omega
        go_wp2_with fail
        go_region_law (refine step_mine rfl _ _ 22 rfl 32 i0 _ 3 24 Try.underlying22 hi hz0 hz1 hz2 rfl (by decide) mv M.length (lvn M) rfl (HOWN.out _ (by repeat' (with_reducible first | exact Only.refl _ _ | refine Only.drew ?_ | refine only_drewN ?_ _ | refine Only.alloc ?_ _))) ⟨w4.heap.size, 0, none⟩ 1 1 (encN ⟨xt, sm, xp⟩) rfl rfl (by first | exact news_line (W := w4) rfl _ | exact news_line (W := w4.drew) rfl _) (lvn_one [⟨xt, sm, xp⟩]) hml1 hml2 ?_; intro v2 w5 hown hgrow hkk)
        all_goals
          have HON : Hid (OwnN w5 v2 (M ++ [⟨xt, sm, xp⟩])) := Lib.hid (by unfold OwnN; rw [List.length_append, lvn_append]; exact hown)
          have HBK2 : Hid (∀ q, v2.ownBlock = some q → w2.heap.size ≤ q) := Lib.hid (fun q hq => by
            rcases hkk q hq with e | e
            · exact HBK.out q e
            · have h5 : w4.heap.size ≤ q := Nat.le_trans (Only.size (S := fun _ => False) (by repeat' (with_reducible first | exact Only.refl _ _ | refine Only.drew ?_ | refine only_drewN ?_ _ | refine Only.alloc ?_ _))) e
              have := (HO.out.trans H4.out).size
              omega)
          have HO5 : Hid (Only (fun _ => False) w2 w5) := Lib.hid ((HO.out.trans (H4.out.trans (by repeat' (with_reducible first | exact Only.refl _ _ | refine Only.drew ?_ | refine only_drewN ?_ _ | refine Only.alloc ?_ _)))).then (Only.of_grown hgrow) (fun q hq e => by have := HBK.out q e; omega))
          clear hown hgrow hkk p0 p2
          have HIN2 : Hid (∀ y ∈ M ++ [⟨xt, sm, xp⟩], isInt y.b = true) := Lib.hid (fun y hy => by
            rcases List.mem_append.1 hy with hy | hy
            · exact HIN.out y hy
            · rw [List.mem_singleton] at hy; rw [hy]; exact HII.out)
          have HRN : Hid (ReadsN w2 (if cap' = n then some ⟨b, off, none⟩ else some ⟨b, off + n * 3, none⟩) (m - n) (S.drop (k + n))) := Lib.hid (by
            have h5 := HR.out.drop n hnm
            rw [List.drop_drop] at h5
            by_cases hcn : cap' = n
            · exact ⟨h5.1, .inl (by omega)⟩
            · rw [if_neg hcn]; exact h5)
          go_wp2_with fail
          go_roundw
          case rel => exact ⟨k + n, m - n, _, cap' - n, M ++ [⟨xt, sm, xp⟩], v2, by omega, rfl, rfl, by omega, by omega, HRN, Lib.hid HMR.out.1, Lib.hid HMR.out.2.1, HIN2, by rw [List.length_append]; simp; omega, HON, HBK2, HO5⟩
          case measure => simp [slLen]; omega
end Go.Proofs.Ytdfghdccbpnohaa.tirw
