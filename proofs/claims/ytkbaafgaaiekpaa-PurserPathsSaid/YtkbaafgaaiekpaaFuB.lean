/- Books: comparing accounts; Get, Available, Set; isAccount, Right. -/
import Derived.Test.YtkbaafgaaiekpaaFuA
import Derived.OpenShut
import Derived.ChangeOld
namespace Go.Proofs.Ytkbaafgaaiekpaa.fnd
open Go.RowKit mem tre
set_option linter.unusedVariables false

def In6 (c : Int) : Prop := -9223372036854775808 ≤ c ∧ c ≤ 9223372036854775807
def InA (a : Ac) : Prop := In6 a.t ∧ In6 a.c ∧ In6 a.e ∧ In6 a.u ∧ In6 a.h
theorem key_ac (a : Ac) (h : InA a) : Try.prog.keyLits 2 40 (encA a) = some [.int .i64 a.t, .int .i64 a.c, .int .i64 a.e, .int .i64 a.u, .int .i64 a.h] := by
  obtain ⟨h0, h1, h2, h3, h4⟩ := h
  have c3 : Try.prog.cellsOf 3 = 1 := by kernel_rfl
  have c5 : Try.prog.cellsOf 40 = 5 := by kernel_rfl
  have hw : ∀ {n : Int}, In6 n → (Lit.int .i64 n).wf = true := by
    intro n h
    unfold In6 at h
    simp [Lit.wf, IntKind.min, IntKind.max, IntKind.signed, IntKind.bits]; omega
  simp [encA, Program.keyLits, Try.underlying40, Try.underlying3, c3, c5, hw h0, hw h1, hw h2, hw h3, hw h4]
set_option maxRecDepth 100000 in
theorem ac_cmp (a b : Ac) (ha : InA a) (hb : InA b) (w : World) : (Op.equalIn 10000 40 (aggA a) (aggA b)).run Try.prog w = .ok (decide (a = b)) w := by
  obtain ⟨r, hr, hiff⟩ := run_equalIn_deep (P := Try.prog) 9990 10 40 (by kernel_rfl) w 2 2 (aggA a) (aggA b) _ _ (by kernel_rfl) (by kernel_rfl) (key_ac a ha) (key_ac b hb)
  rw [show (10000 : Nat) = 9990 + 10 from rfl, hr]
  congr 1
  rw [Bool.eq_iff_iff, hiff, decide_eq_true_iff]
  constructor
  · intro h
    obtain ⟨a0, a1, a2, a3, a4⟩ := a
    obtain ⟨b0, b1, b2, b3, b4⟩ := b
    simp at h
    simp [h]
  · intro h; rw [h]
theorem right_ins {a : Ac} (h : Parts a) : InA a := by
  obtain ⟨⟨a1, a2⟩, ⟨b1, b2⟩, ⟨c1, c2⟩, ⟨d1, d2⟩, ⟨g1, g2⟩⟩ := h
  unfold InA In6
  omega
set_option maxHeartbeats 2000000 in
theorem get_any (p : Nat) (A : List Ac) (n : Int) (w : World) (h : BkAt w p A) : Calls Try.prog 43 #[.pointer (some ⟨p, 0, none⟩), .int .i64 n] w fun e w' => e = .returned (aggA (acG A n)) ∧ Only (fun _ => False) w w' := by
  have HF : Hid (∀ cs t, BkAt (w.alloc (.cells cs t)) p A) := Lib.hid (fun cs t => h.only ((Only.refl (fun _ => False) w).alloc _) (fun f => f))
  have HC : Hid (∀ (cs : Array Value) t, ∀ (i : Nat) v, cs[i]? = some v → (w.alloc (.cells cs t)).cell? ⟨w.heap.size, i, none⟩ = some v) := Lib.hid (fun cs t i v h => alloc_cell rfl h)
  have HO : Hid (∀ o, Only (fun _ => False) w (w.alloc o)) := Lib.hid (fun o => (Only.refl _ _).alloc o)
  unfold acG
  by_cases hn : NodeOk n
  · rw [if_pos hn]
    obtain ⟨h1, h2⟩ := hn
    obtain ⟨k, rfl⟩ : ∃ k : Nat, n = k := ⟨n.toNat, by omega⟩
    rw [Int.toNat_natCast]
    have hk : k < 33 := by omega
    have hk2 : (k : Int) < 33 := by omega
    obtain ⟨c0, c1, c2, c3, c4⟩ := (HF.out #[.int .i64 0, .int .i64 0, .int .i64 0, .int .i64 0, .int .i64 0] 40).1 k hk
    generalize A.getD k zA = a at *
    obtain ⟨at_, ac, ae, au, ah⟩ := a
    dsimp only at c0 c1 c2 c3 c4
    have HP := Lib.hid (node_box 40 (.int .i64 at_) (.int .i64 ac) (.int .i64 ae) (.int .i64 au) (.int .i64 ah) (Only.refl _ w))
    clear h
    go_enter Try.func43, Try.ntmps43
    go_wp2_with ((with_reducible refine (isNode_yes _ _ h1 h2).mono ?_); rintro _ _ ⟨rfl, rfl⟩)
    obtain ⟨e0, e1, e2, e3, e4, ho⟩ := HP.out
    refine bodyPost_ret (v := aggA ⟨at_, ac, ae, au, ah⟩) (by simp [results, Try.results43, go_sem, aggA]) rfl ⟨rfl, ho⟩
  · rw [if_neg hn]
    have hn' : ¬ (1 ≤ n ∧ n ≤ 32) := hn
    clear h hn
    go_enter Try.func43, Try.ntmps43
    go_wp2_with ((with_reducible refine (isNode_no _ _ hn').mono ?_); rintro _ _ ⟨rfl, rfl⟩)
    have c0 := HC.out #[.int .i64 0, .int .i64 0, .int .i64 0, .int .i64 0, .int .i64 0] 40 0 _ rfl
    have c1 := HC.out #[.int .i64 0, .int .i64 0, .int .i64 0, .int .i64 0, .int .i64 0] 40 1 _ rfl
    have c2 := HC.out #[.int .i64 0, .int .i64 0, .int .i64 0, .int .i64 0, .int .i64 0] 40 2 _ rfl
    have c3 := HC.out #[.int .i64 0, .int .i64 0, .int .i64 0, .int .i64 0, .int .i64 0] 40 3 _ rfl
    have c4 := HC.out #[.int .i64 0, .int .i64 0, .int .i64 0, .int .i64 0, .int .i64 0] 40 4 _ rfl
    refine bodyPost_ret (v := aggA zA) (by simp [results, Try.results43, go_sem, aggA, zA, c0, c1, c2, c3, c4]) rfl ⟨rfl, HO.out _⟩
theorem available_any (p : Nat) (A : List Ac) (n : Int) (w : World) (h : BkAt w p A) (hA : Bok A) : Calls Try.prog 36 #[.pointer (some ⟨p, 0, none⟩), .int .i64 n] w fun e w' => e = .returned (.int .i64 (left (acG A n))) ∧ Only (fun _ => False) w w' := by
  have HG := Lib.hid (get_any p A n w h)
  have HP : Hid (Parts (acG A n)) := Lib.hid (acG_ok hA n).1
  clear h hA
  generalize acG A n = a at *
  have HV : Hid (∀ w1, _) := Lib.hid (fun w1 => avail_any a w1 HP.out)
  generalize left a = v at *
  obtain ⟨at_, ac, ae, au, ah⟩ := a
  unfold aggA at HG HV
  dsimp only at HG HV
  go_enter Try.func36, Try.ntmps36
  go_wp2_with fail
  refine HG.out.mono ?_
  rintro _ w1 ⟨rfl, ho⟩
  have HO := Lib.hid ho
  clear ho
  go_wp2_with fail
  refine (HV.out _).mono ?_
  rintro _ w2 ⟨rfl, ho⟩
  have HO2 := Lib.hid (HO.out.trans ho)
  clear ho
  go_wp2_with fail
  go_ret
  exact ⟨rfl, HO2.out⟩
theorem run_index_p (a b c d e : Int) (k : Nat) (hk : k < 5) (w : World) : (Instr.index 125 (.agg #[.int .i64 a, .int .i64 b, .int .i64 c, .int .i64 d, .int .i64 e]) (.int .i64 (k : Int))).run Try.prog w = .ok (.int .i64 (List.getD [a, b, c, d, e] k 0)) w := by
  have h5 : k = 0 ∨ k = 1 ∨ k = 2 ∨ k = 3 ∨ k = 4 := by omega
  rcases h5 with rfl | rfl | rfl | rfl | rfl
  all_goals simp [Instr.index, run_underlying Try.underlying125, asIntOf, go_sem]
set_option maxRecDepth 100000 in
set_option maxHeartbeats 4000000 in
theorem isacc_any (a : Ac) (w : World) : Calls Try.prog 74 #[aggA a] w fun e w' => e = .returned (.bool (decide (Right a))) ∧ Only (fun _ => False) w w' := by
  have HAV : Hid (∀ w1, Parts a → _) := Lib.hid (fun w1 h => avail_any a w1 h)
  obtain ⟨at_, ac, ae, au, ah⟩ := a
  unfold aggA at HAV ⊢
  obtain ⟨e0, e1, e2, e3, e4, ho9⟩ := node_box 40 (.int .i64 at_) (.int .i64 ac) (.int .i64 ae) (.int .i64 au) (.int .i64 ah) (Only.refl (fun _ => False) w)
  have HO9 := Lib.hid ho9
  clear ho9
  dsimp only at HAV ⊢
  obtain ⟨w1, hw1⟩ : ∃ x, x = w.alloc (.cells #[.int .i64 at_, .int .i64 ac, .int .i64 ae, .int .i64 au, .int .i64 ah] 40) := ⟨_, rfl⟩
  obtain ⟨g, hg⟩ : ∃ x, x = w.heap.size := ⟨_, rfl⟩
  simp only [← hw1, ← hg] at e0 e1 e2 e3 e4 HO9
  go_enter Try.func74, Try.ntmps74
  go_wp2_with fail
  simp only [← hw1, ← hg]
  clear hw1 hg
  go_loopw [16] (fun iv wr => ∃ k : Nat, k ≤ 5 ∧ iv = .int .i64 (k : Int) ∧ Hid (∀ j, j < k → InM ((List.getD [at_, ac, ae, au, ah] j 0))) ∧ Hid (Only (fun _ => False) w1 wr)) (fun iv _ => 5 - (intOf iv).toNat)
  case atStart => exact ⟨0, by omega, rfl, Lib.hid (fun j hj => by omega), Lib.hid (Only.refl _ _)⟩
  case round =>
    obtain ⟨k, hk, rfl, HIN, HO⟩ := hrel
    rename World => wr
    by_cases h8 : k < 5
    · have hpos : (0 : Int) ≤ k := by omega
      have h9 : (k : Int) < 5 := by omega
      have hix := run_index_p at_ ac ae au ah k h8
      have HST : Hid (InM (List.getD [at_, ac, ae, au, ah] k 0) → ∀ j, j < k + 1 → InM ((List.getD [at_, ac, ae, au, ah] j 0))) := Lib.hid (fun hm j hj => by
        by_cases e : j = k
        · subst e; exact hm
        · exact HIN.out j (by omega))
      have HNR : Hid (¬ InM (List.getD [at_, ac, ae, au, ah] k 0) → decide (Right ⟨at_, ac, ae, au, ah⟩) = false) := Lib.hid (fun hm => by
        rw [decide_eq_false_iff_not]
        intro hr
        obtain ⟨r0, r1, r2, r3, r4⟩ := hr.1
        have h5 : k = 0 ∨ k = 1 ∨ k = 2 ∨ k = 3 ∨ k = 4 := by omega
        rcases h5 with rfl | rfl | rfl | rfl | rfl
        · exact hm r0
        · exact hm r1
        · exact hm r2
        · exact hm r3
        · exact hm r4)
      generalize List.getD [at_, ac, ae, au, ah] k 0 = x at *
      by_cases hm : InM x
      · have HIN2 := Lib.hid (HST.out hm)
        obtain ⟨m1, m2⟩ := hm
        go_wp2_with fail
        go_roundw
        case rel => exact ⟨k + 1, by omega, by go_num, HIN2, HO⟩
        case measure => simp [intOf]; omega
      · have HNR2 := Lib.hid (HNR.out hm)
        by_cases m1 : 0 ≤ x
        · have m2 : ¬ x ≤ 9007199254740992 := fun q => hm ⟨m1, q⟩
          clear hm
          go_wp2_with fail
          go_ret
          exact ⟨by rw [HNR2.out]; rfl, HO9.out.trans HO.out⟩
        · clear hm
          go_wp2_with fail
          go_ret
          exact ⟨by rw [HNR2.out]; rfl, HO9.out.trans HO.out⟩
    · obtain rfl : k = 5 := by omega
      have hp : Parts ⟨at_, ac, ae, au, ah⟩ := ⟨HIN.out 0 (by omega), HIN.out 1 (by omega), HIN.out 2 (by omega), HIN.out 3 (by omega), HIN.out 4 (by omega)⟩
      have HV := fun w1 => Lib.hid (HAV.out w1 hp)
      have HP := Lib.hid hp
      have qs : IntKind.i64.wrap (at_ + ac) = at_ + ac := by
        obtain ⟨⟨a1, a2⟩, ⟨b1, b2⟩, _⟩ := hp
        dsimp only at a1 a2 b1 b2
        exact w64 _ (by omega) (by omega)
      replace e0 := HO.out.cell' e0 (fun f => f)
      replace e1 := HO.out.cell' e1 (fun f => f)
      replace e2 := HO.out.cell' e2 (fun f => f)
      replace e3 := HO.out.cell' e3 (fun f => f)
      replace e4 := HO.out.cell' e4 (fun f => f)
      clear hp HAV HIN
      by_cases hs : at_ + ac ≤ 9007199254740992
      · have HR : Hid (decide (Right ⟨at_, ac, ae, au, ah⟩) = decide (0 ≤ left ⟨at_, ac, ae, au, ah⟩)) := Lib.hid (decide_eq_decide.2 ⟨fun q => q.2.2, fun q => ⟨HP.out, hs, q⟩⟩)
        generalize left ⟨at_, ac, ae, au, ah⟩ = v at *
        go_wp2_with fail
        refine (HV _).out.mono ?_
        rintro _ w2 ⟨rfl, ho⟩
        have HO2 : Hid (Only (fun _ => False) w w2) := Lib.hid (HO9.out.trans (HO.out.trans ho))
        clear ho
        go_wp2_with fail
        go_ret
        exact ⟨by rw [HR.out]; rfl, HO2.out⟩
      · have HR : Hid (decide (Right ⟨at_, ac, ae, au, ah⟩) = false) := Lib.hid (decide_eq_false (fun q => hs q.2.1))
        go_wp2_with fail
        go_ret
        exact ⟨by rw [HR.out]; rfl, HO9.out.trans HO.out⟩
end Go.Proofs.Ytkbaafgaaiekpaa.fnd

