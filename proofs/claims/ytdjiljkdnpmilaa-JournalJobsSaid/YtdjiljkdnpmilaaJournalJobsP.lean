/- Several texts together: LkL, LkP, LkW, JournalJobsP. -/
import Derived.Test.YtdjiljkdnpmilaaZ4
import Derived.Test.YtdjiljkdnpmilaaZ1
import Derived.Test.YtdjiljkdnpmilaaRows
import Derived.WalkKit
import Derived.ProofKit
import Derived.OpenShut
import Derived.ShutString
import Derived.ChangeOld
import Derived.Below
namespace Go.Proofs.Ytdjiljkdnpmilaa.jnw
open Go.RowKit mem accm accn entw entm acck bigw intm
set_option linter.unusedVariables false

set_option maxRecDepth 100000 in
set_option maxHeartbeats 8000000 in
theorem like_any {S T : Nat → Prop} (p op : Nat) (v : Value) (m : Option Nat) (nn : Nat) (C : Ac → Option (List Int)) (L : List Ps) (q : Nat) (vL vW : Value) (D : List Es) (per : Int) (w : World) (h : JnAt S w p v op m nn C L) (hd : DjAt T w q vL vW op D) (hl : Lk op C L D) :
    Calls Try.prog 27 #[.pointer (some ⟨p, 0, none⟩), .pointer (some ⟨q, 0, none⟩), .int .i64 per] w fun e w' => e = .returned (.bool true) ∧ Only (fun _ => False) w w' := by
  obtain ⟨aL, cL, hvL⟩ : ∃ a c, vL = .slice a D.length c := by
    rcases own_form hd.oL with ⟨hv, h0⟩ | ⟨g, cap, hv, _⟩
    · exact ⟨none, 0, by rw [hv, h0]⟩
    · exact ⟨_, cap, hv⟩
  subst hvL
  obtain ⟨a0, cp0, rfl, -⟩ := h.own.reads
  have hop := h.jc.le
  have hLD : L.length = D.length := by have := congrArg List.length hl.e; simpa [prP, prE] using this
  have HLK := Lib.hid hl
  have HJ : Hid (∀ w', Only (fun _ => False) w w' → JnAt S w' p _ op m nn C L) := Lib.hid (fun w' ho => h.quiet ho)
  have HD : Hid (∀ w', Only (fun _ => False) w w' → DjAt T w' q _ vW op D) := Lib.hid (fun w' ho => hd.quiet ho)
  have hTR := hl.tri per
  have HTR : Hid (∀ w', Only (fun _ => False) w w' → Calls Try.prog 16 #[.pointer (some ⟨p, 0, none⟩), .int .i64 per] w' fun e w'' => e = .returned (.tuple #[.int .i64 (rtriO op D per).1, .int .i64 (rtriO op D per).2, .int .i64 (rtriE op D per)]) ∧ Only (fun _ => False) w' w'') := Lib.hid (fun w' ho => by
    have h1 := trial_any p op _ m nn C L per w' (HJ.out w' ho)
    rw [hTR.1, hTR.2] at h1
    exact h1)
  have HRT : Hid (∀ w', Only (fun _ => False) w w' → _) := Lib.hid (fun w' (ho : Only (fun _ => False) w w') => rtrial_any q op _ vW D per w' (HD.out w' ho))
  generalize (rtriO op D per).1 = d1 at *
  generalize (rtriO op D per).2 = d2 at *
  generalize rtriE op D per = d3 at *
  clear h hd hl hTR
  go_enter Try.func27, Try.ntmps27
  go_wp2_with fail
  refine (HTR.out w (Only.refl _ _)).mono ?_
  rintro _ w1 ⟨rfl, ho⟩
  have HO1 := Lib.hid ho
  clear ho HTR
  go_wp2_with fail
  refine (HRT.out w1 HO1.out).mono ?_
  rintro _ w2 ⟨rfl, ho⟩
  have HO2 := Lib.hid (HO1.out.trans ho)
  have HS3 : Hid (∀ w', Only (fun _ => False) w2 w' → w'.cell? ⟨q, 0, none⟩ = some (.slice aL D.length cL) ∧ w'.cell? ⟨q, 2, none⟩ = some (.int .i64 (op : Int))) := Lib.hid (fun w' ho => ⟨(HD.out w' (HO2.out.trans ho)).c0, (HD.out w' (HO2.out.trans ho)).c2⟩)
  have HLN : Hid (∀ w', Only (fun _ => False) w2 w' → Calls Try.prog 19 #[.pointer (some ⟨p, 0, none⟩)] w' fun e w'' => e = .returned (.int .i64 (D.length : Int)) ∧ w'' = w') := Lib.hid (fun w' ho => by rw [← hLD]; exact len_any p op _ _ _ m w' (HJ.out w' (HO2.out.trans ho)).jc)
  have HPE : Hid (∀ w', Only (fun _ => False) w2 w' → Calls Try.prog 18 #[.pointer (some ⟨p, 0, none⟩)] w' fun e w'' => e = .returned (.int .i64 (op : Int)) ∧ w'' = w') := Lib.hid (fun w' ho => period_any p op _ m w' (HJ.out w' (HO2.out.trans ho)).jc)
  clear ho HO1 HRT
  go_upto_region 3 with fail
  refine wp_region_noPanic ?_
  refine late.region (fun w' => w'.cell? ⟨q, 0, none⟩ = some (.slice aL D.length cL) ∧ w'.cell? ⟨q, 2, none⟩ = some (.int .i64 (op : Int))) (fun j => [].contains j) (by kernel_rfl) (HS3.out _ (Only.refl _ _).drew) (fun hHeld => ?_)
  obtain ⟨z0, hz0⟩ : ∃ x, x = w2.drew := ⟨_, rfl⟩
  rw [← hz0] at hHeld ⊢
  have hot : Hid (Only (fun _ => False) w2 z0) := Lib.hid (by rw [hz0]; exact (Only.refl _ _).drew)
  clear hz0
  refine late.take (i := 0) [2, 3, 4, 5, 6, 7, 8, 9, 10, 11, 12, 13, 14, 15, 16, 17, 18, 19, 20, 21, 22, 23, 24, 25, 26, 27, 28, 29, 30, 31] (v := ?_) rfl (by kernel_rfl) (by kernel_rfl) (by kernel_rfl) (by kernel_rfl) (fun _ _ _ h => h) (Or.inl ⟨by rfl, ?_⟩) (by assumption) ?_
  rotate_left 1
  · intro w' hSw
    try dsimp only at hSw
    go_simp
    try with_reducible rfl
  try simp only [List.getElem_toArray, List.getElem_cons_zero, Act.put, List.setIfInBounds_toArray, List.set_cons_zero, List.set_cons_succ]
  refine late.take (i := 1) [2, 3, 4, 5, 6, 7, 8, 9, 10, 11, 12, 13, 14, 15, 16, 17, 18, 19, 20, 21, 22, 23, 24, 25, 26, 27, 28, 29, 30, 31] (v := ?_) rfl (by kernel_rfl) (by kernel_rfl) (by kernel_rfl) (by kernel_rfl) (fun _ _ _ h => h) (Or.inl ⟨by rfl, ?_⟩) (by assumption) ?_
  rotate_left 1
  · intro w' hSw
    try dsimp only at hSw
    go_simp
    try with_reducible rfl
  try simp only [List.getElem_toArray, List.getElem_cons_zero, List.getElem_cons_succ, Act.put, List.setIfInBounds_toArray, List.set_cons_zero, List.set_cons_succ]
  refine late.take (i := 2) [3, 4, 5, 6, 7, 8, 9, 10, 11, 12, 13, 14, 15, 16, 17, 18, 19, 20, 21, 22, 23, 24, 25, 26, 27, 28, 29, 30, 31] (v := ?_) rfl (by kernel_rfl) (by kernel_rfl) (by kernel_rfl) (by kernel_rfl) (fun _ _ _ h => h) (Or.inl ⟨by rfl, ?_⟩) (by assumption) ?_
  rotate_left 1
  · intro w' hSw
    try dsimp only at hSw
    go_simp
    try with_reducible rfl
  try simp only [List.getElem_toArray, List.getElem_cons_zero, List.getElem_cons_succ, Act.put, List.setIfInBounds_toArray, List.set_cons_zero, List.set_cons_succ]
  refine late.take (i := 3) [4, 5, 6, 7, 8, 9, 10, 11, 12, 13, 14, 15, 16, 17, 18, 19, 20, 21, 22, 23, 24, 25, 26, 27, 28, 29, 30, 31] (v := ?_) rfl (by kernel_rfl) (by kernel_rfl) (by kernel_rfl) (by kernel_rfl) (fun _ _ _ h => h) (Or.inl ⟨by rfl, ?_⟩) (by assumption) ?_
  rotate_left 1
  · intro w' hSw
    try dsimp only at hSw
    go_simp
    try with_reducible rfl
  try simp only [List.getElem_toArray, List.getElem_cons_zero, List.getElem_cons_succ, Act.put, List.setIfInBounds_toArray, List.set_cons_zero, List.set_cons_succ]
  refine late.take (i := 4) [6, 7, 8, 9, 10, 11, 12, 13, 14, 15, 16, 17, 18, 19, 20, 21, 22, 23, 24, 25, 26, 27, 28, 29, 30, 31] (v := ?_) rfl (by kernel_rfl) (by kernel_rfl) (by kernel_rfl) (by kernel_rfl) (fun _ _ _ h => h) (Or.inl ⟨by rfl, ?_⟩) (by assumption) ?_
  rotate_left 1
  · intro w' hSw
    try dsimp only at hSw
    go_simp
    try with_reducible rfl
  try simp only [List.getElem_toArray, List.getElem_cons_zero, List.getElem_cons_succ, Act.put, List.setIfInBounds_toArray, List.set_cons_zero, List.set_cons_succ]
  refine late.take (i := 5) [6, 7, 8, 9, 10, 11, 12, 13, 14, 15, 16, 17, 18, 19, 20, 21, 22, 23, 24, 25, 26, 27, 28, 29, 30, 31] (v := ?_) rfl (by kernel_rfl) (by kernel_rfl) (by kernel_rfl) (by kernel_rfl) (fun _ _ _ h => h) (Or.inl ⟨by rfl, ?_⟩) (by assumption) ?_
  rotate_left 1
  · intro w' hSw
    try dsimp only at hSw
    go_simp
    try with_reducible rfl
  try simp only [List.getElem_toArray, List.getElem_cons_zero, List.getElem_cons_succ, Act.put, List.setIfInBounds_toArray, List.set_cons_zero, List.set_cons_succ]
  refine late.take (i := 6) [7, 8, 9, 10, 11, 12, 13, 14, 15, 16, 17, 18, 19, 20, 21, 22, 23, 24, 25, 26, 27, 28, 29, 30, 31] (v := ?_) rfl (by kernel_rfl) (by kernel_rfl) (by kernel_rfl) (by kernel_rfl) (fun _ _ _ h => h) (Or.inl ⟨by rfl, ?_⟩) (by assumption) ?_
  rotate_left 1
  · intro w' hSw
    try dsimp only at hSw
    go_simp
    try with_reducible rfl
  try simp only [List.getElem_toArray, List.getElem_cons_zero, List.getElem_cons_succ, Act.put, List.setIfInBounds_toArray, List.set_cons_zero, List.set_cons_succ]
  refine late.take (i := 7) [8, 9, 10, 11, 12, 13, 14, 15, 16, 17, 18, 19, 20, 21, 22, 23, 24, 25, 26, 27, 28, 29, 30, 31] (v := ?_) rfl (by kernel_rfl) (by kernel_rfl) (by kernel_rfl) (by kernel_rfl) (fun _ _ _ h => h) (Or.inl ⟨by rfl, ?_⟩) (by assumption) ?_
  rotate_left 1
  · intro w' hSw
    try dsimp only at hSw
    go_simp
    try with_reducible rfl
  try simp only [List.getElem_toArray, List.getElem_cons_zero, List.getElem_cons_succ, Act.put, List.setIfInBounds_toArray, List.set_cons_zero, List.set_cons_succ]
  refine late.take (i := 8) [9, 10, 11, 12, 13, 14, 15, 16, 17, 18, 19, 20, 21, 22, 23, 24, 25, 26, 27, 28, 29, 30, 31] (v := ?_) rfl (by kernel_rfl) (by kernel_rfl) (by kernel_rfl) (by kernel_rfl) (fun _ _ _ h => h) (Or.inl ⟨by rfl, ?_⟩) (by assumption) ?_
  rotate_left 1
  · intro w' hSw
    try dsimp only at hSw
    go_simp
    try with_reducible rfl
  try simp only [List.getElem_toArray, List.getElem_cons_zero, List.getElem_cons_succ, Act.put, List.setIfInBounds_toArray, List.set_cons_zero, List.set_cons_succ]
  refine late.take (i := 9) [11, 12, 13, 14, 15, 16, 17, 18, 19, 20, 21, 22, 23, 24, 25, 26, 27, 28, 29, 30, 31] (v := ?_) rfl (by kernel_rfl) (by kernel_rfl) (by kernel_rfl) (by kernel_rfl) (fun _ _ _ h => h) (Or.inl ⟨by rfl, ?_⟩) (by assumption) ?_
  rotate_left 1
  · intro w' hSw
    try dsimp only at hSw
    go_simp
    try with_reducible rfl
  try simp only [List.getElem_toArray, List.getElem_cons_zero, List.getElem_cons_succ, Act.put, List.setIfInBounds_toArray, List.set_cons_zero, List.set_cons_succ]
  refine late.take (i := 10) [11, 12, 13, 14, 15, 16, 17, 18, 19, 20, 21, 22, 23, 24, 25, 26, 27, 28, 29, 30, 31] (v := ?_) rfl (by kernel_rfl) (by kernel_rfl) (by kernel_rfl) (by kernel_rfl) (fun _ _ _ h => h) (Or.inl ⟨by rfl, ?_⟩) (by assumption) ?_
  rotate_left 1
  · intro w' hSw
    try dsimp only at hSw
    go_simp
    try with_reducible rfl
  try simp only [List.getElem_toArray, List.getElem_cons_zero, List.getElem_cons_succ, Act.put, List.setIfInBounds_toArray, List.set_cons_zero, List.set_cons_succ]
  refine late.take (i := 11) [12, 13, 14, 15, 16, 17, 18, 19, 20, 21, 22, 23, 24, 25, 26, 27, 28, 29, 30, 31] (v := ?_) rfl (by kernel_rfl) (by kernel_rfl) (by kernel_rfl) (by kernel_rfl) (fun _ _ _ h => h) (Or.inl ⟨by rfl, ?_⟩) (by assumption) ?_
  rotate_left 1
  · intro w' hSw
    try dsimp only at hSw
    go_simp
    try with_reducible rfl
  try simp only [List.getElem_toArray, List.getElem_cons_zero, List.getElem_cons_succ, Act.put, List.setIfInBounds_toArray, List.set_cons_zero, List.set_cons_succ]
  refine late.take (i := 12) [13, 14, 15, 16, 17, 18, 19, 20, 21, 22, 23, 24, 25, 26, 27, 28, 29, 30, 31] (v := ?_) rfl (by kernel_rfl) (by kernel_rfl) (by kernel_rfl) (by kernel_rfl) (fun _ _ _ h => h) (Or.inl ⟨by rfl, ?_⟩) (by assumption) ?_
  rotate_left 1
  · intro w' hSw
    try dsimp only at hSw
    go_simp
    try with_reducible rfl
  try simp only [List.getElem_toArray, List.getElem_cons_zero, List.getElem_cons_succ, Act.put, List.setIfInBounds_toArray, List.set_cons_zero, List.set_cons_succ]
  refine late.take (i := 13) [14, 15, 16, 17, 18, 19, 20, 21, 22, 23, 24, 25, 26, 27, 28, 29, 30, 31] (v := ?_) rfl (by kernel_rfl) (by kernel_rfl) (by kernel_rfl) (by kernel_rfl) (fun _ _ _ h => h) (Or.inl ⟨by rfl, ?_⟩) (by assumption) ?_
  rotate_left 1
  · intro w' hSw
    try dsimp only at hSw
    go_simp
    try with_reducible rfl
  try simp only [List.getElem_toArray, List.getElem_cons_zero, List.getElem_cons_succ, Act.put, List.setIfInBounds_toArray, List.set_cons_zero, List.set_cons_succ]
  refine late.take (i := 14) [15, 21, 22, 23, 24, 25, 26, 27, 28, 29, 30, 31] (v := ?_) rfl (by kernel_rfl) (by kernel_rfl) (by kernel_rfl) (by kernel_rfl) (fun _ _ _ h => h) (Or.inl ⟨by rfl, ?_⟩) (by assumption) ?_
  rotate_left 1
  · intro w' hSw
    try dsimp only at hSw
    go_simp
    try with_reducible rfl
  try simp only [List.getElem_toArray, List.getElem_cons_zero, List.getElem_cons_succ, Act.put, List.setIfInBounds_toArray, List.set_cons_zero, List.set_cons_succ]
  refine late.take (i := 16) [17, 18, 19, 20, 21, 22, 23, 24, 25, 26, 27, 28, 29, 30, 31] (v := ?_) rfl (by kernel_rfl) (by kernel_rfl) (by kernel_rfl) (by kernel_rfl) (fun _ _ _ h => h) (Or.inl ⟨by rfl, ?_⟩) (by assumption) ?_
  rotate_left 1
  · intro w' hSw
    try dsimp only at hSw
    go_simp
    try with_reducible rfl
  try simp only [List.getElem_toArray, List.getElem_cons_zero, List.getElem_cons_succ, Act.put, List.setIfInBounds_toArray, List.set_cons_zero, List.set_cons_succ]
  refine late.take (i := 17) [18, 19, 20, 21, 22, 23, 24, 25, 26, 27, 28, 29, 30, 31] (v := ?_) rfl (by kernel_rfl) (by kernel_rfl) (by kernel_rfl) (by kernel_rfl) (fun _ _ _ h => h) (Or.inl ⟨by rfl, ?_⟩) (by assumption) ?_
  rotate_left 1
  · intro w' hSw
    try dsimp only at hSw
    go_simp
    try with_reducible rfl
  try simp only [List.getElem_toArray, List.getElem_cons_zero, List.getElem_cons_succ, Act.put, List.setIfInBounds_toArray, List.set_cons_zero, List.set_cons_succ]
  refine late.take (i := 18) [19, 20, 21, 22, 23, 24, 25, 26, 27, 28, 29, 30, 31] (v := ?_) rfl (by kernel_rfl) (by kernel_rfl) (by kernel_rfl) (by kernel_rfl) (fun _ _ _ h => h) (Or.inl ⟨by rfl, ?_⟩) (by assumption) ?_
  rotate_left 1
  · intro w' hSw
    try dsimp only at hSw
    go_simp
    try with_reducible rfl
  try simp only [List.getElem_toArray, List.getElem_cons_zero, List.getElem_cons_succ, Act.put, List.setIfInBounds_toArray, List.set_cons_zero, List.set_cons_succ]
  refine late.take (i := 19) [20, 21, 22, 23, 24, 25, 26, 27, 28, 29, 30, 31] (v := ?_) rfl (by kernel_rfl) (by kernel_rfl) (by kernel_rfl) (by kernel_rfl) (fun _ _ _ h => h) (Or.inl ⟨by rfl, ?_⟩) (by assumption) ?_
  rotate_left 1
  · intro w' hSw
    try dsimp only at hSw
    go_simp
    try with_reducible rfl
  try simp only [List.getElem_toArray, List.getElem_cons_zero, List.getElem_cons_succ, Act.put, List.setIfInBounds_toArray, List.set_cons_zero, List.set_cons_succ]
  refine late.take (i := 20) [21, 22, 23, 24, 25, 26, 27, 28, 29, 30, 31] (v := ?_) rfl (by kernel_rfl) (by kernel_rfl) (by kernel_rfl) (by kernel_rfl) (fun _ _ _ h => h) (Or.inl ⟨by rfl, ?_⟩) (by assumption) ?_
  rotate_left 1
  · intro w' hSw
    try dsimp only at hSw
    go_simp
    try with_reducible rfl
  try simp only [List.getElem_toArray, List.getElem_cons_zero, List.getElem_cons_succ, Act.put, List.setIfInBounds_toArray, List.set_cons_zero, List.set_cons_succ]
  refine late.ready (rs := [15]) (by kernel_rfl) (by simp) ?_
  refine late.Each.cons rfl (fun K hK => ?_) late.Each.nil
  try simp only [List.getElem_toArray, List.getElem_cons_zero, List.getElem_cons_succ]
  go_simp
  go_at_call 19
  with_reducible refine (HLN.out _ hot.out).mono ?_
  rintro _ _ ⟨rfl, rfl⟩
  try dsimp only
  refine hK.out _ _ (fun _ => HS3.out _ hot.out) (fun hHeld1 => ?_)
  replace hHeld1 := hHeld1 rfl
  clear hK K
  try simp only [List.getElem_toArray, List.getElem_cons_zero, List.getElem_cons_succ, Act.put, List.setIfInBounds_toArray, List.set_cons_zero, List.set_cons_succ]
  refine late.take (i := 21) [22, 23, 24, 25, 26, 27, 28, 29, 30, 31] (v := ?_) rfl (by kernel_rfl) (by kernel_rfl) (by kernel_rfl) (by kernel_rfl) (fun _ _ _ h => h) (Or.inl ⟨by rfl, ?_⟩) (by assumption) ?_
  rotate_left 1
  · intro w' hSw
    try dsimp only at hSw
    go_simp
    try with_reducible rfl
  try simp only [List.getElem_toArray, List.getElem_cons_zero, List.getElem_cons_succ, Act.put, List.setIfInBounds_toArray, List.set_cons_zero, List.set_cons_succ]
  refine late.take (i := 22) [23, 24, 25, 26, 27, 28, 29, 30, 31] (v := ?_) rfl (by kernel_rfl) (by kernel_rfl) (by kernel_rfl) (by kernel_rfl) (fun _ _ _ h => h) (Or.inl ⟨by rfl, ?_⟩) (by assumption) ?_
  rotate_left 1
  · intro w' hSw
    try dsimp only at hSw
    go_simp
    try with_reducible rfl
  try simp only [List.getElem_toArray, List.getElem_cons_zero, List.getElem_cons_succ, Act.put, List.setIfInBounds_toArray, List.set_cons_zero, List.set_cons_succ]
  refine late.take (i := 23) [24, 25, 26, 27, 28, 29, 30, 31] (v := ?_) rfl (by kernel_rfl) (by kernel_rfl) (by kernel_rfl) (by kernel_rfl) (fun _ _ _ h => h) (Or.inl ⟨by rfl, ?_⟩) (by assumption) ?_
  rotate_left 1
  · intro w' hSw
    try dsimp only at hSw
    go_simp
    try with_reducible rfl
  try simp only [List.getElem_toArray, List.getElem_cons_zero, List.getElem_cons_succ, Act.put, List.setIfInBounds_toArray, List.set_cons_zero, List.set_cons_succ]
  refine late.take (i := 24) [25, 30, 31] (v := ?_) rfl (by kernel_rfl) (by kernel_rfl) (by kernel_rfl) (by kernel_rfl) (fun _ _ _ h => h) (Or.inl ⟨by rfl, ?_⟩) (by assumption) ?_
  rotate_left 1
  · intro w' hSw
    try dsimp only at hSw
    go_simp
    try with_reducible rfl
  try simp only [List.getElem_toArray, List.getElem_cons_zero, List.getElem_cons_succ, Act.put, List.setIfInBounds_toArray, List.set_cons_zero, List.set_cons_succ]
  refine late.take (i := 26) [27, 28, 29, 30, 31] (v := ?_) rfl (by kernel_rfl) (by kernel_rfl) (by kernel_rfl) (by kernel_rfl) (fun _ _ _ h => h) (Or.inl ⟨by rfl, ?_⟩) (by assumption) ?_
  rotate_left 1
  · intro w' hSw
    try dsimp only at hSw
    go_simp
    try with_reducible rfl
  try simp only [List.getElem_toArray, List.getElem_cons_zero, List.getElem_cons_succ, Act.put, List.setIfInBounds_toArray, List.set_cons_zero, List.set_cons_succ]
  refine late.take (i := 27) [28, 29, 30, 31] (v := ?_) rfl (by kernel_rfl) (by kernel_rfl) (by kernel_rfl) (by kernel_rfl) (fun _ _ _ h => h) (Or.inl ⟨by rfl, ?_⟩) (by assumption) ?_
  rotate_left 1
  · intro w' hSw
    try dsimp only at hSw
    go_simp
    try with_reducible rfl
  try simp only [List.getElem_toArray, List.getElem_cons_zero, List.getElem_cons_succ, Act.put, List.setIfInBounds_toArray, List.set_cons_zero, List.set_cons_succ]
  refine late.take (i := 28) [29, 30, 31] (v := ?_) rfl (by kernel_rfl) (by kernel_rfl) (by kernel_rfl) (by kernel_rfl) (fun _ _ _ h => h) (Or.inl ⟨by rfl, ?_⟩) (by assumption) ?_
  rotate_left 1
  · intro w' hSw
    try dsimp only at hSw
    go_simp
    try with_reducible rfl
  try simp only [List.getElem_toArray, List.getElem_cons_zero, List.getElem_cons_succ, Act.put, List.setIfInBounds_toArray, List.set_cons_zero, List.set_cons_succ]
  refine late.take (i := 29) [30, 31] (v := ?_) rfl (by kernel_rfl) (by kernel_rfl) (by kernel_rfl) (by kernel_rfl) (fun _ _ _ h => h) (Or.inl ⟨by rfl, ?_⟩) (by assumption) ?_
  rotate_left 1
  · intro w' hSw
    try dsimp only at hSw
    go_simp
    try with_reducible rfl
  try simp only [List.getElem_toArray, List.getElem_cons_zero, List.getElem_cons_succ, Act.put, List.setIfInBounds_toArray, List.set_cons_zero, List.set_cons_succ]
  refine late.ready (rs := [25]) (by kernel_rfl) (by simp) ?_
  refine late.Each.cons rfl (fun K hK => ?_) late.Each.nil
  try simp only [List.getElem_toArray, List.getElem_cons_zero, List.getElem_cons_succ]
  go_simp
  go_at_call 18
  with_reducible refine (HPE.out _ hot.out).mono ?_
  rintro _ _ ⟨rfl, rfl⟩
  try dsimp only
  refine hK.out _ _ (fun _ => HS3.out _ hot.out) (fun hHeld2 => ?_)
  replace hHeld2 := hHeld2 rfl
  clear hK K
  try simp only [List.getElem_toArray, List.getElem_cons_zero, List.getElem_cons_succ, Act.put, List.setIfInBounds_toArray, List.set_cons_zero, List.set_cons_succ]
  refine late.take (i := 30) [31] (v := ?_) rfl (by kernel_rfl) (by kernel_rfl) (by kernel_rfl) (by kernel_rfl) (fun _ _ _ h => h) (Or.inl ⟨by rfl, ?_⟩) (by assumption) ?_
  rotate_left 1
  · intro w' hSw
    try dsimp only at hSw
    go_simp
    try with_reducible rfl
  try simp only [List.getElem_toArray, List.getElem_cons_zero, List.getElem_cons_succ, Act.put, List.setIfInBounds_toArray, List.set_cons_zero, List.set_cons_succ]
  refine late.take (i := 31) [] (v := ?_) rfl (by kernel_rfl) (by kernel_rfl) (by kernel_rfl) (by kernel_rfl) (fun _ _ _ h => h) (Or.inl ⟨by rfl, ?_⟩) (by assumption) ?_
  rotate_left 1
  · intro w' hSw
    try dsimp only at hSw
    go_simp
    try with_reducible rfl
  try simp only [List.getElem_toArray, List.getElem_cons_zero, List.getElem_cons_succ, Act.put, List.setIfInBounds_toArray, List.set_cons_zero, List.set_cons_succ]
  refine late.done (by kernel_rfl) ?_ _
  refine NoPanic.normal ?_
  have HO3 := Lib.hid (HO2.out.trans hot.out)
  clear hHeld hot HS3 HLN HPE HO2
  rename World => w3
  have HS5 : Hid (∀ w', Only (fun _ => False) w3 w' → w'.cell? ⟨q, 2, none⟩ = some (.int .i64 (op : Int))) := Lib.hid (fun w' ho => (HD.out w' (HO3.out.trans ho)).c2)
  have HAC : Hid (∀ w', Only (fun _ => False) w3 w' → _) := Lib.hid (fun w' (ho : Only (fun _ => False) w3 w') => accounts_any p op _ m nn C L w' (HJ.out w' (HO3.out.trans ho)))
  have HRA : Hid (∀ w', Only (fun _ => False) w3 w' → Calls Try.prog 44 #[.pointer (some ⟨q, 0, none⟩)] w' (RAccs D w')) := Lib.hid (fun w' (ho : Only (fun _ => False) w3 w') => raccs_any q op _ vW D w' (HD.out w' (HO3.out.trans ho)))
  go_wp2_with fail
  refine (HAC.out w3 (Only.refl _ _)).mono ?_
  rintro _ w4 ⟨v1, rfl, hacc⟩
  have HA1 := Lib.hid hacc
  have ho4 : Only (fun _ => False) w3 w4 := by obtain ⟨_, _, _, _, _, _, _, _, _, ho⟩ := hacc; exact ho
  have HA4 := Lib.hid ho4
  obtain ⟨aA, cA, ss, rfl, hra, hks, hso, hcA, hcM, -⟩ := hacc
  have HRA1 := Lib.hid hra
  have HKS := Lib.hid hks
  have HSO := Lib.hid hso
  clear ho4 hra hks hso HA1
  go_wp2_with fail
  refine (HRA.out w4 HA4.out).mono ?_
  rintro _ w5 ⟨v2, rfl, hown2, -, ho⟩
  have HO2 := Lib.hid hown2
  have HA2 := Lib.hid ho
  have HO5 := Lib.hid (HO3.out.trans (HA4.out.trans ho))
  clear ho hown2 HAC HRA HS5 HA4
  have hra := HRA1.out
  have hks := HKS.out
  have hso := HSO.out
  have hEQ := HLK.out.accs (fun x hx => ((HD.out _ HO3.out).ls x hx).2.1) hks hso
  have HR1 : Hid (∀ w', Only (fun _ => False) w5 w' → ReadsA w' aA ss.length ss) := Lib.hid (fun w' ho => hra.only (HA2.out.trans ho) (fun _ _ f => f))
  have hown := HO2.out
  rw [← hEQ] at hown
  have hml : (ss.map toL).length = ss.length := by simp
  have HIN : Hid (∀ a ∈ ss, InA a) := Lib.hid hks.2.2
  have HOW : Hid (∀ w', Only (fun _ => False) w5 w' → OwnR w' v2 (ss.map toL)) := Lib.hid (fun w' ho => owns_only ho hown (fun _ _ f => f))
  obtain ⟨a2, c2, hv2⟩ : ∃ a c, v2 = .slice a ss.length c := by
    rcases own_form hown with ⟨hv, h0⟩ | ⟨g, cap, hv, _⟩
    · exact ⟨none, 0, by rw [hv, ← hml, h0]⟩
    · exact ⟨_, cap, by rw [hv, hml]⟩
  subst hv2
  clear hra hks hso hEQ hown HRA1 HKS HSO HA2 HO2 HO3
  unfold maxLen at hcM
  go_wp2_with fail
  go_loopw [15] (fun iv wr => ∃ i : Nat, i ≤ ss.length ∧ iv = .int .i64 (i : Int) ∧ Hid (Only (fun _ => False) w5 wr)) (fun iv _ => ss.length - (intOf iv).toNat)
  case atStart => exact ⟨0, by omega, rfl, Lib.hid (Only.refl _ _)⟩
  case round =>
    obtain ⟨i, hi, rfl, HX⟩ := hrel
    rename World => wr
    by_cases h8 : i < ss.length
    · have hin : (i : Int) < (ss.length : Int) := by omega
      have hi0 : (0 : Int) ≤ (i : Int) := by omega
      obtain ⟨gA, rfl, hc⟩ := (HR1.out wr HX.out).2.resolve_left (by omega)
      obtain ⟨y0, y1, y2⟩ := hc i h8
      have HIA := Lib.hid (HIN.out _ (show ss.getD i default ∈ ss by rw [List.getD_eq_getElem?_getD, List.getElem?_eq_getElem h8]; exact List.getElem_mem h8))
      obtain ⟨g2, rfl⟩ : ∃ g, a2 = some ⟨g, 0, none⟩ := by
        rcases own_form (HOW.out wr HX.out) with ⟨hv, h0⟩ | ⟨g, cap, hv, _⟩
        · rw [hml] at h0; omega
        · injection hv with hv; exact ⟨g, hv⟩
      obtain ⟨⟨x0, x1, x2, x3⟩, -⟩ := own_cell4 (HOW.out wr HX.out) i hml.symm h8
      have hgm : (ss.map toL).getD i default = toL (ss.getD i default) := by simp [List.getD, h8]
      rw [hgm] at x0 x1 x2 x3
      obtain ⟨⟨ak, an, ag⟩, hae⟩ : ∃ x, ss.getD i default = x := ⟨_, rfl⟩
      rw [hae] at y0 y1 y2 x0 x1 x2 x3 HIA
      unfold toL at x0 x1 x2 x3
      dsimp only at y0 y1 y2 x0 x1 x2 x3
      obtain ⟨wb, hwb⟩ : ∃ y, y = wr.alloc (.cells #[.int .i64 ak, .int .i64 an, .int .i64 ag, .int .i64 0] 68) := ⟨_, rfl⟩
      obtain ⟨q4, hq4⟩ : ∃ y, y = wr.heap.size := ⟨_, rfl⟩
      have hob : Only (fun _ => False) wr wb := by rw [hwb]; exact (Only.refl _ wr).alloc _
      have HXB := Lib.hid (HX.out.trans hob)
      have HS12 : Hid (∀ w', Only (fun _ => False) wb w' → w'.cell? ⟨gA, i * 3, none⟩ = some (.int .i64 ak) ∧ w'.cell? ⟨gA, i * 3 + 1, none⟩ = some (.int .i64 an) ∧ w'.cell? ⟨gA, i * 3 + 2, none⟩ = some (.int .i64 ag) ∧ w'.cell? ⟨q4, 0, none⟩ = some (.int .i64 ak) ∧ w'.cell? ⟨q4, 1, none⟩ = some (.int .i64 an) ∧ w'.cell? ⟨q4, 2, none⟩ = some (.int .i64 ag) ∧ w'.cell? ⟨q4, 3, none⟩ = some (.int .i64 0)) := Lib.hid (fun w' ho =>
        ⟨(hob.trans ho).cell' y0 (fun f => f), (hob.trans ho).cell' y1 (fun f => f), (hob.trans ho).cell' y2 (fun f => f), ho.cell' (by rw [hwb]; exact alloc_new _ _ _ _ _ _ hq4 rfl) (fun f => f), ho.cell' (by rw [hwb]; exact alloc_new _ _ _ _ _ _ hq4 rfl) (fun f => f), ho.cell' (by rw [hwb]; exact alloc_new _ _ _ _ _ _ hq4 rfl) (fun f => f), ho.cell' (by rw [hwb]; exact alloc_new _ _ _ _ _ _ hq4 rfl) (fun f => f)⟩)
      obtain ⟨s1, hs1⟩ : ∃ x, x = wrap64 (movD ⟨ak, an, ag⟩ (-1) D) := ⟨_, rfl⟩
      obtain ⟨s2, hs2⟩ : ∃ x, x = wrap64 (movD ⟨ak, an, ag⟩ (max per 0) D) := ⟨_, rfl⟩
      have HXW := Lib.hid (HO5.out.trans HXB.out)
      have HBA : Hid (∀ w', Only (fun _ => False) wb w' → Calls Try.prog 20 #[.pointer (some ⟨p, 0, none⟩), .agg #[.int .i64 ak, .int .i64 an, .int .i64 ag]] w' fun e w'' => e = .returned (.int .i64 s1) ∧ Only (fun _ => False) w' w'') := Lib.hid (fun w' ho => by
        have hj := HJ.out w' (HXW.out.trans ho)
        have h1 := bal_any p op _ m nn C ak an ag HIA.out w' hj.jc hj.mp
        rw [HLK.out.bal hop ⟨ak, an, ag⟩ (hj.mp.row _).1, ← hs1] at h1
        exact h1)
      have HDM : Hid (∀ w', Only (fun _ => False) wb w' → Calls Try.prog 42 #[.pointer (some ⟨q, 0, none⟩), .agg #[.int .i64 ak, .int .i64 an, .int .i64 ag, .int .i64 0], .int .i64 (-1)] w' fun e w'' => e = .returned (.int .i64 s1) ∧ Only (fun _ => False) w' w'') := Lib.hid (fun w' ho => by
        have h1 := rmoved_any q op _ vW D ⟨ak, an, ag, 0⟩ (-1) w' (HD.out w' (HXW.out.trans ho))
        rw [show lgA ⟨ak, an, ag, 0⟩ = (⟨ak, an, ag⟩ : Ac) from rfl, ← hs1] at h1
        exact h1)
      have HMV : Hid (∀ w', Only (fun _ => False) wb w' → Calls Try.prog 21 #[.pointer (some ⟨p, 0, none⟩), .agg #[.int .i64 ak, .int .i64 an, .int .i64 ag], .int .i64 (max per 0)] w' fun e w'' => e = .returned (.int .i64 s2) ∧ Only (fun _ => False) w' w'') := Lib.hid (fun w' ho => by
        have hj := HJ.out w' (HXW.out.trans ho)
        have h1 := moved_any p op _ m nn C ak an ag HIA.out (max per 0) w' hj.jc hj.mp
        rw [HLK.out.mov hop ⟨ak, an, ag⟩ (max per 0) (by omega), ← hs2] at h1
        exact h1)
      have HDM2 : Hid (∀ w', Only (fun _ => False) wb w' → Calls Try.prog 42 #[.pointer (some ⟨q, 0, none⟩), .agg #[.int .i64 ak, .int .i64 an, .int .i64 ag, .int .i64 0], .int .i64 (max per 0)] w' fun e w'' => e = .returned (.int .i64 s2) ∧ Only (fun _ => False) w' w'') := Lib.hid (fun w' ho => by
        have h1 := rmoved_any q op _ vW D ⟨ak, an, ag, 0⟩ (max per 0) w' (HD.out w' (HXW.out.trans ho))
        rw [show lgA ⟨ak, an, ag, 0⟩ = (⟨ak, an, ag⟩ : Ac) from rfl, ← hs2] at h1
        exact h1)
      clear hc hob hs1 hs2 hgm hae HIA
      go_upto_region 12 with fail
      simp only [← hwb, ← hq4]
      clear hwb hq4 x0 x1 x2 x3 y0 y1 y2
      refine wp_region_noPanic ?_
      refine late.region (fun w' => w'.cell? ⟨gA, i * 3, none⟩ = some (.int .i64 ak) ∧ w'.cell? ⟨gA, i * 3 + 1, none⟩ = some (.int .i64 an) ∧ w'.cell? ⟨gA, i * 3 + 2, none⟩ = some (.int .i64 ag) ∧ w'.cell? ⟨q4, 0, none⟩ = some (.int .i64 ak) ∧ w'.cell? ⟨q4, 1, none⟩ = some (.int .i64 an) ∧ w'.cell? ⟨q4, 2, none⟩ = some (.int .i64 ag) ∧ w'.cell? ⟨q4, 3, none⟩ = some (.int .i64 0)) (fun j => [].contains j) (by kernel_rfl) (HS12.out _ (Only.refl _ _).drew) (fun hHeld => ?_)
      obtain ⟨z0, hz0⟩ : ∃ x, x = wb.drew := ⟨_, rfl⟩
      rw [← hz0] at hHeld ⊢
      have hot : Hid (Only (fun _ => False) wb z0) := Lib.hid (by rw [hz0]; exact (Only.refl _ _).drew)
      clear hz0
      refine late.take (i := 0) [2, 3, 11, 12, 13, 14, 15, 16, 17, 18, 19, 20, 21, 22, 23, 24, 25, 26, 27, 28, 29, 30, 31, 32, 33, 34, 35, 36, 37, 38, 39] (v := ?_) rfl (by kernel_rfl) (by kernel_rfl) (by kernel_rfl) (by kernel_rfl) (fun _ _ _ h => h) (Or.inl ⟨by rfl, ?_⟩) (by assumption) ?_
      rotate_left 1
      · intro w' hSw
        try dsimp only at hSw
        go_simp
        try with_reducible rfl
      try simp only [List.getElem_toArray, List.getElem_cons_zero, Act.put, List.setIfInBounds_toArray, List.set_cons_zero, List.set_cons_succ]
      refine late.take (i := 1) [2, 3, 11, 12, 13, 14, 15, 16, 17, 18, 19, 20, 21, 22, 23, 24, 25, 26, 27, 28, 29, 30, 31, 32, 33, 34, 35, 36, 37, 38, 39] (v := ?_) rfl (by kernel_rfl) (by kernel_rfl) (by kernel_rfl) (by kernel_rfl) (fun _ _ _ h => h) (Or.inl ⟨by rfl, ?_⟩) (by assumption) ?_
      rotate_left 1
      · intro w' hSw
        try dsimp only at hSw
        go_simp
        try with_reducible rfl
      try simp only [List.getElem_toArray, List.getElem_cons_zero, List.getElem_cons_succ, Act.put, List.setIfInBounds_toArray, List.set_cons_zero, List.set_cons_succ]
      refine late.take (i := 2) [3, 11, 12, 13, 14, 15, 16, 17, 18, 19, 20, 21, 22, 23, 24, 25, 26, 27, 28, 29, 30, 31, 32, 33, 34, 35, 36, 37, 38, 39] (v := ?_) rfl (by kernel_rfl) (by kernel_rfl) (by kernel_rfl) (by kernel_rfl) (fun _ _ _ h => h) (Or.inl ⟨by rfl, ?_⟩) (by assumption) ?_
      rotate_left 1
      · intro w' hSw
        try dsimp only at hSw
        go_simp
        try with_reducible rfl
      try simp only [List.getElem_toArray, List.getElem_cons_zero, List.getElem_cons_succ, Act.put, List.setIfInBounds_toArray, List.set_cons_zero, List.set_cons_succ]
      refine late.take (i := 3) [11, 12, 13, 14, 15, 16, 17, 18, 19, 20, 21, 22, 23, 24, 25, 26, 27, 28, 29, 30, 31, 32, 33, 34, 35, 36, 37, 38, 39] (v := ?_) rfl (by kernel_rfl) (by kernel_rfl) (by kernel_rfl) (by kernel_rfl) (fun _ _ _ h => h) (Or.inl ⟨by rfl, ?_⟩) (by assumption) ?_
      rotate_left 1
      · intro w' hSw
        try dsimp only at hSw
        go_simp
        try with_reducible rfl
      try simp only [List.getElem_toArray, List.getElem_cons_zero, List.getElem_cons_succ, Act.put, List.setIfInBounds_toArray, List.set_cons_zero, List.set_cons_succ]
      refine late.take (i := 4) [5, 10, 11, 12, 13, 14, 15, 16, 17, 18, 19, 20, 21, 22, 23, 24, 25, 26, 27, 28, 29, 30, 31, 32, 33, 34, 35, 36, 37, 38, 39] (v := ?_) rfl (by kernel_rfl) (by kernel_rfl) (by kernel_rfl) (by kernel_rfl) (fun _ _ _ h => h) (Or.inl ⟨by rfl, ?_⟩) (by assumption) ?_
      rotate_left 1
      · intro w' hSw
        try dsimp only at hSw
        go_simp
        try with_reducible rfl
      try simp only [List.getElem_toArray, List.getElem_cons_zero, List.getElem_cons_succ, Act.put, List.setIfInBounds_toArray, List.set_cons_zero, List.set_cons_succ]
      refine late.take (i := 5) [10, 11, 12, 13, 14, 15, 16, 17, 18, 19, 20, 21, 22, 23, 24, 25, 26, 27, 28, 29, 30, 31, 32, 33, 34, 35, 36, 37, 38, 39] (v := ?_) rfl (by kernel_rfl) (by kernel_rfl) (by kernel_rfl) (by kernel_rfl) (fun _ _ _ h => h) (Or.inl ⟨by rfl, ?_⟩) (by assumption) ?_
      rotate_left 1
      · intro w' hSw
        try dsimp only at hSw
        go_simp
        try with_reducible rfl
      try simp only [List.getElem_toArray, List.getElem_cons_zero, List.getElem_cons_succ, Act.put, List.setIfInBounds_toArray, List.set_cons_zero, List.set_cons_succ]
      refine late.take (i := 6) [7, 10, 11, 12, 13, 14, 15, 16, 17, 18, 19, 20, 21, 22, 23, 24, 25, 26, 27, 28, 29, 30, 31, 32, 33, 34, 35, 36, 37, 38, 39] (v := ?_) rfl (by kernel_rfl) (by kernel_rfl) (by kernel_rfl) (by kernel_rfl) (fun _ _ _ h => h) (Or.inl ⟨by rfl, ?_⟩) (by assumption) ?_
      rotate_left 1
      · intro w' hSw
        try dsimp only at hSw
        go_simp
        try with_reducible rfl
      try simp only [List.getElem_toArray, List.getElem_cons_zero, List.getElem_cons_succ, Act.put, List.setIfInBounds_toArray, List.set_cons_zero, List.set_cons_succ]
      refine late.take (i := 7) [10, 11, 12, 13, 14, 15, 16, 17, 18, 19, 20, 21, 22, 23, 24, 25, 26, 27, 28, 29, 30, 31, 32, 33, 34, 35, 36, 37, 38, 39] (v := ?_) rfl (by kernel_rfl) (by kernel_rfl) (by kernel_rfl) (by kernel_rfl) (fun _ _ _ h => h) (Or.inl ⟨by rfl, ?_⟩) (by assumption) ?_
      rotate_left 1
      · intro w' hSw
        try dsimp only at hSw
        go_simp
        try with_reducible rfl
      try simp only [List.getElem_toArray, List.getElem_cons_zero, List.getElem_cons_succ, Act.put, List.setIfInBounds_toArray, List.set_cons_zero, List.set_cons_succ]
      refine late.take (i := 8) [9, 10, 11, 12, 13, 14, 15, 16, 17, 18, 19, 20, 21, 22, 23, 24, 25, 26, 27, 28, 29, 30, 31, 32, 33, 34, 35, 36, 37, 38, 39] (v := ?_) rfl (by kernel_rfl) (by kernel_rfl) (by kernel_rfl) (by kernel_rfl) (fun _ _ _ h => h) (Or.inl ⟨by rfl, ?_⟩) (by assumption) ?_
      rotate_left 1
      · intro w' hSw
        try dsimp only at hSw
        go_simp
        try with_reducible rfl
      try simp only [List.getElem_toArray, List.getElem_cons_zero, List.getElem_cons_succ, Act.put, List.setIfInBounds_toArray, List.set_cons_zero, List.set_cons_succ]
      refine late.take (i := 9) [10, 11, 12, 13, 14, 15, 16, 17, 18, 19, 20, 21, 22, 23, 24, 25, 26, 27, 28, 29, 30, 31, 32, 33, 34, 35, 36, 37, 38, 39] (v := ?_) rfl (by kernel_rfl) (by kernel_rfl) (by kernel_rfl) (by kernel_rfl) (fun _ _ _ h => h) (Or.inl ⟨by rfl, ?_⟩) (by assumption) ?_
      rotate_left 1
      · intro w' hSw
        try dsimp only at hSw
        go_simp
        try with_reducible rfl
      try simp only [List.getElem_toArray, List.getElem_cons_zero, List.getElem_cons_succ, Act.put, List.setIfInBounds_toArray, List.set_cons_zero, List.set_cons_succ]
      refine late.take (i := 10) [11, 12, 13, 14, 15, 16, 17, 18, 19, 20, 21, 22, 23, 24, 25, 26, 27, 28, 29, 30, 31, 32, 33, 34, 35, 36, 37, 38, 39] (v := ?_) rfl (by kernel_rfl) (by kernel_rfl) (by kernel_rfl) (by kernel_rfl) (fun _ _ _ h => h) (Or.inl ⟨by rfl, ?_⟩) (by assumption) ?_
      rotate_left 1
      · intro w' hSw
        try dsimp only at hSw
        go_simp
        try with_reducible rfl
      try simp only [List.getElem_toArray, List.getElem_cons_zero, List.getElem_cons_succ, Act.put, List.setIfInBounds_toArray, List.set_cons_zero, List.set_cons_succ]
      refine late.take (i := 11) [12, 13, 14, 15, 16, 17, 18, 19, 20, 21, 22, 23, 24, 25, 26, 27, 28, 29, 30, 31, 32, 33, 34, 35, 36, 37, 38, 39] (v := ?_) rfl (by kernel_rfl) (by kernel_rfl) (by kernel_rfl) (by kernel_rfl) (fun _ _ _ h => h) (Or.inl ⟨by rfl, ?_⟩) (by assumption) ?_
      rotate_left 1
      · intro w' hSw
        try dsimp only at hSw
        go_simp
        try with_reducible rfl
      try simp only [List.getElem_toArray, List.getElem_cons_zero, List.getElem_cons_succ, Act.put, List.setIfInBounds_toArray, List.set_cons_zero, List.set_cons_succ]
      refine late.take (i := 12) [13, 14, 15, 16, 17, 18, 19, 20, 21, 22, 23, 24, 25, 26, 27, 28, 29, 30, 31, 32, 33, 34, 35, 36, 37, 38, 39] (v := ?_) rfl (by kernel_rfl) (by kernel_rfl) (by kernel_rfl) (by kernel_rfl) (fun _ _ _ h => h) (Or.inl ⟨by rfl, ?_⟩) (by assumption) ?_
      rotate_left 1
      · intro w' hSw
        try dsimp only at hSw
        go_simp
        try with_reducible rfl
      try simp only [List.getElem_toArray, List.getElem_cons_zero, List.getElem_cons_succ, Act.put, List.setIfInBounds_toArray, List.set_cons_zero, List.set_cons_succ]
      refine late.take (i := 13) [18, 21, 22, 23, 24, 25, 26, 27, 28, 29, 30, 31, 32, 33, 34, 35, 36, 37, 38, 39] (v := ?_) rfl (by kernel_rfl) (by kernel_rfl) (by kernel_rfl) (by kernel_rfl) (fun _ _ _ h => h) (Or.inl ⟨by rfl, ?_⟩) (by assumption) ?_
      rotate_left 1
      · intro w' hSw
        try dsimp only at hSw
        go_simp
        try with_reducible rfl
      try simp only [List.getElem_toArray, List.getElem_cons_zero, List.getElem_cons_succ, Act.put, List.setIfInBounds_toArray, List.set_cons_zero, List.set_cons_succ]
      refine late.take (i := 14) [16, 17, 18, 21, 22, 23, 24, 25, 26, 27, 28, 29, 30, 31, 32, 33, 34, 35, 36, 37, 38, 39] (v := ?_) rfl (by kernel_rfl) (by kernel_rfl) (by kernel_rfl) (by kernel_rfl) (fun _ _ _ h => h) (Or.inl ⟨by rfl, ?_⟩) (by assumption) ?_
      rotate_left 1
      · intro w' hSw
        try dsimp only at hSw
        go_simp
        try with_reducible rfl
      try simp only [List.getElem_toArray, List.getElem_cons_zero, List.getElem_cons_succ, Act.put, List.setIfInBounds_toArray, List.set_cons_zero, List.set_cons_succ]
      refine late.take (i := 15) [16, 17, 18, 21, 22, 23, 24, 25, 26, 27, 28, 29, 30, 31, 32, 33, 34, 35, 36, 37, 38, 39] (v := ?_) rfl (by kernel_rfl) (by kernel_rfl) (by kernel_rfl) (by kernel_rfl) (fun _ _ _ h => h) (Or.inl ⟨by rfl, ?_⟩) (by assumption) ?_
      rotate_left 1
      · intro w' hSw
        try dsimp only at hSw
        go_simp
        try with_reducible rfl
      try simp only [List.getElem_toArray, List.getElem_cons_zero, List.getElem_cons_succ, Act.put, List.setIfInBounds_toArray, List.set_cons_zero, List.set_cons_succ]
      refine late.take (i := 16) [17, 18, 21, 22, 23, 24, 25, 26, 27, 28, 29, 30, 31, 32, 33, 34, 35, 36, 37, 38, 39] (v := ?_) rfl (by kernel_rfl) (by kernel_rfl) (by kernel_rfl) (by kernel_rfl) (fun _ _ _ h => h) (Or.inl ⟨by rfl, ?_⟩) (by assumption) ?_
      rotate_left 1
      · intro w' hSw
        try dsimp only at hSw
        go_simp
        try with_reducible rfl
      try simp only [List.getElem_toArray, List.getElem_cons_zero, List.getElem_cons_succ, Act.put, List.setIfInBounds_toArray, List.set_cons_zero, List.set_cons_succ]
      refine late.take (i := 17) [18, 21, 22, 23, 24, 25, 26, 27, 28, 29, 30, 31, 32, 33, 34, 35, 36, 37, 38, 39] (v := ?_) rfl (by kernel_rfl) (by kernel_rfl) (by kernel_rfl) (by kernel_rfl) (fun _ _ _ h => h) (Or.inl ⟨by rfl, ?_⟩) (by assumption) ?_
      rotate_left 1
      · intro w' hSw
        try dsimp only at hSw
        go_simp
        try with_reducible rfl
      try simp only [List.getElem_toArray, List.getElem_cons_zero, List.getElem_cons_succ, Act.put, List.setIfInBounds_toArray, List.set_cons_zero, List.set_cons_succ]
      refine late.take (i := 19) [21, 22, 23, 24, 25, 26, 27, 28, 29, 30, 31, 32, 33, 34, 35, 36, 37, 38, 39] (v := ?_) rfl (by kernel_rfl) (by kernel_rfl) (by kernel_rfl) (by kernel_rfl) (fun _ _ _ h => h) (Or.inl ⟨by rfl, ?_⟩) (by assumption) ?_
      rotate_left 1
      · intro w' hSw
        try dsimp only at hSw
        go_simp
        try with_reducible rfl
      try simp only [List.getElem_toArray, List.getElem_cons_zero, List.getElem_cons_succ, Act.put, List.setIfInBounds_toArray, List.set_cons_zero, List.set_cons_succ]
      refine late.take (i := 20) [21, 22, 23, 24, 25, 26, 27, 28, 29, 30, 31, 32, 33, 34, 35, 36, 37, 38, 39] (v := ?_) rfl (by kernel_rfl) (by kernel_rfl) (by kernel_rfl) (by kernel_rfl) (fun _ _ _ h => h) (Or.inl ⟨by rfl, ?_⟩) (by assumption) ?_
      rotate_left 1
      · intro w' hSw
        try dsimp only at hSw
        go_simp
        try with_reducible rfl
      try simp only [List.getElem_toArray, List.getElem_cons_zero, List.getElem_cons_succ, Act.put, List.setIfInBounds_toArray, List.set_cons_zero, List.set_cons_succ]
      refine late.ready (rs := [18]) (by kernel_rfl) (by simp) ?_
      refine late.Each.cons rfl (fun K hK => ?_) late.Each.nil
      try simp only [List.getElem_toArray, List.getElem_cons_zero, List.getElem_cons_succ]
      go_simp
      go_at_call 20
      with_reducible refine (HBA.out _ hot.out).mono ?_
      rintro _ W1 ⟨rfl, ho⟩
      replace hot := Lib.hid (hot.out.trans ho)
      clear ho
      try dsimp only
      refine hK.out _ _ (fun _ => HS12.out _ hot.out) (fun hHeld1 => ?_)
      replace hHeld1 := hHeld1 rfl
      clear hK K
      try simp only [List.getElem_toArray, List.getElem_cons_zero, List.getElem_cons_succ, Act.put, List.setIfInBounds_toArray, List.set_cons_zero, List.set_cons_succ]
      refine late.ready (rs := [21]) (by kernel_rfl) (by simp) ?_
      refine late.Each.cons rfl (fun K hK => ?_) late.Each.nil
      try simp only [List.getElem_toArray, List.getElem_cons_zero, List.getElem_cons_succ]
      go_simp
      go_at_call 42
      with_reducible refine (HDM.out _ hot.out).mono ?_
      rintro _ W2 ⟨rfl, ho⟩
      replace hot := Lib.hid (hot.out.trans ho)
      clear ho
      try dsimp only
      refine hK.out _ _ (fun _ => HS12.out _ hot.out) (fun hHeld2 => ?_)
      replace hHeld2 := hHeld2 rfl
      clear hK K
      try simp only [List.getElem_toArray, List.getElem_cons_zero, List.getElem_cons_succ, Act.put, List.setIfInBounds_toArray, List.set_cons_zero, List.set_cons_succ]
      refine late.take (i := 22) [23, 24, 25, 26, 27, 28, 29, 30, 31, 32, 33, 34, 35, 36, 37, 38, 39] (v := ?_) rfl (by kernel_rfl) (by kernel_rfl) (by kernel_rfl) (by kernel_rfl) (fun _ _ _ h => h) (Or.inl ⟨by rfl, ?_⟩) (by assumption) ?_
      rotate_left 1
      · intro w' hSw
        try dsimp only at hSw
        go_simp
        try with_reducible rfl
      try simp only [List.getElem_toArray, List.getElem_cons_zero, List.getElem_cons_succ, Act.put, List.setIfInBounds_toArray, List.set_cons_zero, List.set_cons_succ]
      refine late.take (i := 23) [24, 25, 26, 27, 28, 29, 30, 31, 32, 33, 34, 35, 36, 37, 38, 39] (v := ?_) rfl (by kernel_rfl) (by kernel_rfl) (by kernel_rfl) (by kernel_rfl) (fun _ _ _ h => h) (Or.inl ⟨by rfl, ?_⟩) (by assumption) ?_
      rotate_left 1
      · intro w' hSw
        try dsimp only at hSw
        go_simp
        try with_reducible rfl
      try simp only [List.getElem_toArray, List.getElem_cons_zero, List.getElem_cons_succ, Act.put, List.setIfInBounds_toArray, List.set_cons_zero, List.set_cons_succ]
      refine late.take (i := 24) [25, 26, 27, 28, 29, 30, 31, 32, 33, 34, 35, 36, 37, 38, 39] (v := ?_) rfl (by kernel_rfl) (by kernel_rfl) (by kernel_rfl) (by kernel_rfl) (fun _ _ _ h => h) (Or.inl ⟨by rfl, ?_⟩) (by assumption) ?_
      rotate_left 1
      · intro w' hSw
        try dsimp only at hSw
        go_simp
        try with_reducible rfl
      try simp only [List.getElem_toArray, List.getElem_cons_zero, List.getElem_cons_succ, Act.put, List.setIfInBounds_toArray, List.set_cons_zero, List.set_cons_succ]
      refine late.take (i := 25) [32, 37, 38, 39] (v := ?_) rfl (by kernel_rfl) (by kernel_rfl) (by kernel_rfl) (by kernel_rfl) (fun _ _ _ h => h) (Or.inl ⟨by rfl, ?_⟩) (by assumption) ?_
      rotate_left 1
      · intro w' hSw
        try dsimp only at hSw
        go_simp
        try with_reducible rfl
      try simp only [List.getElem_toArray, List.getElem_cons_zero, List.getElem_cons_succ, Act.put, List.setIfInBounds_toArray, List.set_cons_zero, List.set_cons_succ]
      refine late.take (i := 26) [28, 29, 32, 37, 38, 39] (v := ?_) rfl (by kernel_rfl) (by kernel_rfl) (by kernel_rfl) (by kernel_rfl) (fun _ _ _ h => h) (Or.inl ⟨by rfl, ?_⟩) (by assumption) ?_
      rotate_left 1
      · intro w' hSw
        try dsimp only at hSw
        go_simp
        try with_reducible rfl
      try simp only [List.getElem_toArray, List.getElem_cons_zero, List.getElem_cons_succ, Act.put, List.setIfInBounds_toArray, List.set_cons_zero, List.set_cons_succ]
      refine late.take (i := 27) [28, 29, 32, 37, 38, 39] (v := ?_) rfl (by kernel_rfl) (by kernel_rfl) (by kernel_rfl) (by kernel_rfl) (fun _ _ _ h => h) (Or.inl ⟨by rfl, ?_⟩) (by assumption) ?_
      rotate_left 1
      · intro w' hSw
        try dsimp only at hSw
        go_simp
        try with_reducible rfl
      try simp only [List.getElem_toArray, List.getElem_cons_zero, List.getElem_cons_succ, Act.put, List.setIfInBounds_toArray, List.set_cons_zero, List.set_cons_succ]
      refine late.take (i := 28) [29, 32, 37, 38, 39] (v := ?_) rfl (by kernel_rfl) (by kernel_rfl) (by kernel_rfl) (by kernel_rfl) (fun _ _ _ h => h) (Or.inl ⟨by rfl, ?_⟩) (by assumption) ?_
      rotate_left 1
      · intro w' hSw
        try dsimp only at hSw
        go_simp
        try with_reducible rfl
      try simp only [List.getElem_toArray, List.getElem_cons_zero, List.getElem_cons_succ, Act.put, List.setIfInBounds_toArray, List.set_cons_zero, List.set_cons_succ]
      refine late.take (i := 29) [32, 37, 38, 39] (v := ?_) rfl (by kernel_rfl) (by kernel_rfl) (by kernel_rfl) (by kernel_rfl) (fun _ _ _ h => h) (Or.inl ⟨by rfl, ?_⟩) (by assumption) ?_
      rotate_left 1
      · intro w' hSw
        try dsimp only at hSw
        go_simp
        try with_reducible rfl
      try simp only [List.getElem_toArray, List.getElem_cons_zero, List.getElem_cons_succ, Act.put, List.setIfInBounds_toArray, List.set_cons_zero, List.set_cons_succ]
      refine late.take (i := 30) [31, 32, 37, 38, 39] (v := ?_) rfl (by kernel_rfl) (by kernel_rfl) (by kernel_rfl) (by kernel_rfl) (fun _ _ _ h => h) (Or.inl ⟨by rfl, ?_⟩) (by assumption) ?_
      rotate_left 1
      · intro w' hSw
        try dsimp only at hSw
        go_simp
        try with_reducible rfl
      try simp only [List.getElem_toArray, List.getElem_cons_zero, List.getElem_cons_succ, Act.put, List.setIfInBounds_toArray, List.set_cons_zero, List.set_cons_succ]
      refine late.take (i := 31) [32, 37, 38, 39] (v := ?_) rfl (by kernel_rfl) (by kernel_rfl) (by kernel_rfl) (by kernel_rfl) (fun _ _ _ h => h) (Or.inl ⟨by rfl, ?_⟩) (by assumption) ?_
      rotate_left 1
      · intro w' hSw
        try dsimp only at hSw
        go_simp
        try with_reducible rfl
      try simp only [List.getElem_toArray, List.getElem_cons_zero, List.getElem_cons_succ, Act.put, List.setIfInBounds_toArray, List.set_cons_zero, List.set_cons_succ]
      refine late.take (i := 33) [37, 38, 39] (v := ?_) rfl (by kernel_rfl) (by kernel_rfl) (by kernel_rfl) (by kernel_rfl) (fun _ _ _ h => h) (Or.inl ⟨by rfl, ?_⟩) (by assumption) ?_
      rotate_left 1
      · intro w' hSw
        try dsimp only at hSw
        go_simp
        try with_reducible rfl
      try simp only [List.getElem_toArray, List.getElem_cons_zero, List.getElem_cons_succ, Act.put, List.setIfInBounds_toArray, List.set_cons_zero, List.set_cons_succ]
      refine late.take (i := 34) [37, 38, 39] (v := ?_) rfl (by kernel_rfl) (by kernel_rfl) (by kernel_rfl) (by kernel_rfl) (fun _ _ _ h => h) (Or.inl ⟨by rfl, ?_⟩) (by assumption) ?_
      rotate_left 1
      · intro w' hSw
        try dsimp only at hSw
        go_simp
        try with_reducible rfl
      try simp only [List.getElem_toArray, List.getElem_cons_zero, List.getElem_cons_succ, Act.put, List.setIfInBounds_toArray, List.set_cons_zero, List.set_cons_succ]
      refine late.take (i := 35) [36, 37, 38, 39] (v := ?_) rfl (by kernel_rfl) (by kernel_rfl) (by kernel_rfl) (by kernel_rfl) (fun _ _ _ h => h) (Or.inl ⟨by rfl, ?_⟩) (by assumption) ?_
      rotate_left 1
      · intro w' hSw
        try dsimp only at hSw
        go_simp
        try with_reducible rfl
      try simp only [List.getElem_toArray, List.getElem_cons_zero, List.getElem_cons_succ, Act.put, List.setIfInBounds_toArray, List.set_cons_zero, List.set_cons_succ]
      refine late.take (i := 36) [37, 38, 39] (v := ?_) rfl (by kernel_rfl) (by kernel_rfl) (by kernel_rfl) (by kernel_rfl) (fun _ _ _ h => h) (Or.inl ⟨by rfl, ?_⟩) (by assumption) ?_
      rotate_left 1
      · intro w' hSw
        try dsimp only at hSw
        go_simp
        try with_reducible rfl
      try simp only [List.getElem_toArray, List.getElem_cons_zero, List.getElem_cons_succ, Act.put, List.setIfInBounds_toArray, List.set_cons_zero, List.set_cons_succ]
      refine late.ready (rs := [32]) (by kernel_rfl) (by simp) ?_
      refine late.Each.cons rfl (fun K hK => ?_) late.Each.nil
      try simp only [List.getElem_toArray, List.getElem_cons_zero, List.getElem_cons_succ]
      go_simp
      go_at_call 21
      with_reducible refine (HMV.out _ hot.out).mono ?_
      rintro _ W3 ⟨rfl, ho⟩
      replace hot := Lib.hid (hot.out.trans ho)
      clear ho
      try dsimp only
      refine hK.out _ _ (fun _ => HS12.out _ hot.out) (fun hHeld3 => ?_)
      replace hHeld3 := hHeld3 rfl
      clear hK K
      try simp only [List.getElem_toArray, List.getElem_cons_zero, List.getElem_cons_succ, Act.put, List.setIfInBounds_toArray, List.set_cons_zero, List.set_cons_succ]
      refine late.ready (rs := [37]) (by kernel_rfl) (by simp) ?_
      refine late.Each.cons rfl (fun K hK => ?_) late.Each.nil
      try simp only [List.getElem_toArray, List.getElem_cons_zero, List.getElem_cons_succ]
      go_simp
      go_at_call 42
      with_reducible refine (HDM2.out _ hot.out).mono ?_
      rintro _ W4 ⟨rfl, ho⟩
      replace hot := Lib.hid (hot.out.trans ho)
      clear ho
      try dsimp only
      refine hK.out _ _ (fun _ => HS12.out _ hot.out) (fun hHeld4 => ?_)
      replace hHeld4 := hHeld4 rfl
      clear hK K
      try simp only [List.getElem_toArray, List.getElem_cons_zero, List.getElem_cons_succ, Act.put, List.setIfInBounds_toArray, List.set_cons_zero, List.set_cons_succ]
      refine late.take (i := 38) [39] (v := ?_) rfl (by kernel_rfl) (by kernel_rfl) (by kernel_rfl) (by kernel_rfl) (fun _ _ _ h => h) (Or.inl ⟨by rfl, ?_⟩) (by assumption) ?_
      rotate_left 1
      · intro w' hSw
        try dsimp only at hSw
        go_simp
        try with_reducible rfl
      try simp only [List.getElem_toArray, List.getElem_cons_zero, List.getElem_cons_succ, Act.put, List.setIfInBounds_toArray, List.set_cons_zero, List.set_cons_succ]
      refine late.take (i := 39) [] (v := ?_) rfl (by kernel_rfl) (by kernel_rfl) (by kernel_rfl) (by kernel_rfl) (fun _ _ _ h => h) (Or.inl ⟨by rfl, ?_⟩) (by assumption) ?_
      rotate_left 1
      · intro w' hSw
        try dsimp only at hSw
        go_simp
        try with_reducible rfl
      try simp only [List.getElem_toArray, List.getElem_cons_zero, List.getElem_cons_succ, Act.put, List.setIfInBounds_toArray, List.set_cons_zero, List.set_cons_succ]
      refine late.done (by kernel_rfl) ?_ _
      refine NoPanic.normal ?_
      have HXN := Lib.hid (HXB.out.trans hot.out)
      clear hHeld hot HS12 HBA HDM HMV HDM2
      go_wp2_with fail
      go_roundw
      case rel => exact ⟨i + 1, by omega, by go_num, HXN⟩
      case measure => (simp [intOf]; omega)
    · have hin : ¬ (i : Int) < (ss.length : Int) := by omega
      have HXE := Lib.hid (HO5.out.trans HX.out)
      go_wp2_with fail
      go_ret
      exact ⟨rfl, HXE.out⟩
end Go.Proofs.Ytdjiljkdnpmilaa.jnw

namespace Go.Proofs.Ytdjiljkdnpmilaa.jnw
open Go.RowKit mem accm accn entw entm acck bigw intm
set_option linter.unusedVariables false

theorem DjAt.monoS {S T : Nat → Prop} {w : World} {p : Nat} {vL vW : Value} {op : Nat} {D : List Es} (h : DjAt S w p vL vW op D) (hT : ∀ q, q < w.heap.size → S q → T q) : DjAt T w p vL vW op D :=
  ⟨h.c0, h.c1, h.c2, h.f0, h.f1, h.f2, h.le, h.oL, h.oW, hT _ h.lt h.sp, fun q e => ⟨hT _ (own_lt h.oL e) (h.sL q e).1, (h.sL q e).2⟩, fun q e => ⟨hT _ (own_lt h.oW e) (h.sW q e).1, (h.sW q e).2⟩, fun x hx => by
    obtain ⟨h1, h2, h3, h4⟩ := h.ls x hx
    have hl := ((chk_ok _ _).1 h2).2.1
    exact ⟨h1, h2, h3, fun y e => ⟨hT _ (readsL_block h1 e (by have := h1.1; omega)) (h4 y e).1, (h4 y e).2⟩⟩, h.len⟩
/-- both journals, apart -/
def JDS (Sj Sd : Nat → Prop) (base p q i op : Nat) (L : List Ps) (w : World) : Prop :=
  (∃ (v : Value) (m : Option Nat) (nn : Nat) (C : Ac → Option (List Int)) (vL vW : Value) (D : List Es), JnAt Sj w p v op m nn C L ∧ DjAt Sd w q vL vW op D ∧ Lk op C L D ∧ D.length ≤ i) ∧ (∀ k, Sj k → base ≤ k ∧ k < w.heap.size ∧ ¬ Sd k) ∧ (∀ k, Sd k → base ≤ k ∧ k < w.heap.size)
theorem JDS.only {Sj Sd T : Nat → Prop} {base p q i op : Nat} {L : List Ps} {w w' : World} (h : JDS Sj Sd base p q i op L w) (ho : Only T w w') (hT : ∀ k, T k → ¬ Sj k ∧ ¬ Sd k) : JDS Sj Sd base p q i op L w' := by
  obtain ⟨⟨v, m, nn, C, vL, vW, D, h1, h2, h3, h4⟩, h5, h6⟩ := h
  have hs := ho.size
  exact ⟨⟨v, m, nn, C, vL, vW, D, h1.only ho (fun k a b => (hT k b).1 a), h2.only ho (fun k a b => (hT k b).2 a), h3, h4⟩, fun k a => ⟨(h5 k a).1, by have := (h5 k a).2.1; omega, (h5 k a).2.2⟩, fun k a => ⟨(h6 k a).1, by have := (h6 k a).2; omega⟩⟩
theorem JDS.quiet {Sj Sd : Nat → Prop} {base p q i op : Nat} {L : List Ps} {w w' : World} (h : JDS Sj Sd base p q i op L w) (ho : Only (fun _ => False) w w') : JDS Sj Sd base p q i op L w' := h.only ho (fun _ f => f.elim)
theorem JDS.up {Sj Sd : Nat → Prop} {base p q i op : Nat} {L : List Ps} {w : World} (h : JDS Sj Sd base p q i op L w) : JDS Sj Sd base p q (i + 1) op L w := by
  obtain ⟨⟨v, m, nn, C, vL, vW, D, h1, h2, h3, h4⟩, h5⟩ := h
  exact ⟨⟨v, m, nn, C, vL, vW, D, h1, h2, h3, by omega⟩, h5⟩
def JD (base p q i : Nat) (w : World) : Prop := ∃ Sj Sd op L, JDS Sj Sd base p q i op L w
/-- Close of both answers the same -/
def clN (op : Nat) : Int := if op < 31 then ((op + 1 : Nat) : Int) else 0
def clE (op : Nat) : Int := if op < 31 then 0 else 10
theorem close_any {Sj Sd : Nat → Prop} {base p q i op : Nat} {L : List Ps} {w : World} (h : JDS Sj Sd base p q i op L w) :
    Calls Try.prog 14 #[.pointer (some ⟨p, 0, none⟩)] w fun e w1 => e = .returned (.tuple #[.int .i64 (clN op), .int .i64 (clE op)]) ∧ Only Sj w w1 ∧
      Calls Try.prog 24 #[.pointer (some ⟨q, 0, none⟩)] w1 fun e w2 => e = .returned (.tuple #[.int .i64 (clN op), .int .i64 (clE op)]) ∧ Only Sd w1 w2 ∧ JD base p q (i + 1) w2 := by
  obtain ⟨⟨v, m, nn, C, vL, vW, D, h1, h2, h3, h4⟩, h5, h6⟩ := h
  by_cases hop : op < 31
  · have e1 : clN op = ((op + 1 : Nat) : Int) := if_pos hop
    have e2 : clE op = 0 := if_pos hop
    rw [e1, e2]
    refine (close_yes p op v m w h1.jc hop).mono ?_
    rintro _ w1 ⟨rfl, hj, ho⟩
    have hpj := h1.sp
    have h1' := h1.close hj ho
    have ho' : Only Sj w w1 := ho.mono (fun k _ e => by have e : k = p := e; rw [e]; exact hpj)
    have h2' : DjAt Sd w1 q vL vW op D := h2.only ho' (fun k a b => (h5 k b).2.2 a)
    refine ⟨rfl, ho', ?_⟩
    refine (rclose_yes q op vL vW D w1 h2' hop).mono ?_
    rintro _ w2 ⟨rfl, hd, ho2⟩
    have hqd := h2.sp
    have ho2' : Only Sd w1 w2 := ho2.mono (fun k _ e => by have e : k = q := e; rw [e]; exact hqd)
    have hs := ho.size
    have hs2 := ho2.size
    exact ⟨rfl, ho2', Sj, Sd, op + 1, L, ⟨⟨v, m, nn, C, vL, vW, D, h1'.only ho2' (fun k a b => (h5 k a).2.2 b), hd, h3.close, by omega⟩, fun k a => ⟨(h5 k a).1, by have := (h5 k a).2.1; omega, (h5 k a).2.2⟩, fun k a => ⟨(h6 k a).1, by have := (h6 k a).2; omega⟩⟩⟩
  · have e1 : clN op = 0 := if_neg hop
    have e2 : clE op = 10 := if_neg hop
    rw [e1, e2]
    refine (close_full p op v m w h1.jc (by omega)).mono ?_
    rintro _ w1 ⟨rfl, rfl⟩
    refine ⟨rfl, Only.refl _ _, ?_⟩
    refine (rclose_full q op vL vW D w1 h2 (by omega)).mono ?_
    rintro _ w2 ⟨rfl, rfl⟩
    exact ⟨rfl, Only.refl _ _, Sj, Sd, op, L, ⟨v, m, nn, C, vL, vW, D, h1, h2, h3, by omega⟩, h5, h6⟩
/-- what a Post of both leaves -/
def Both (Sj Sd : Nat → Prop) (base p q i op : Nat) (L : List Ps) (k : Int) (ls : List Lg) (a9 : Option Addr) (w : World) (nv er : Int) (w6 : World) : Prop :=
  ∃ (Sj' Sd' : Nat → Prop) (L' : List Ps), JDS Sj' Sd' base p q (i + 1) op L' w6 ∧ (∀ j, Sj' j → Sj j ∨ w.heap.size ≤ j) ∧ (∀ j, Sd' j → Sd j ∨ w.heap.size ≤ j ∨ (0 < ls.length ∧ ∃ y, a9 = some y ∧ y.block = j)) ∧
    (er = 0 → (∃ g cp, L' = L ++ [⟨k, g, ls.length, cp, op, ls⟩]) ∧ nv = L.length ∧ 2 ≤ ls.length ∧ ls.length ≤ 64)
theorem post_both {Sj Sd : Nat → Prop} {base p q i op : Nat} (hi : i < 16384) {L : List Ps} {w : World} (h : JDS Sj Sd base p q i op L w) (k : Int) (ls : List Lg) (a8 : Option Addr) (c8 : Nat) (a9 : Option Addr) (n9 c9 : Nat) (h8 : ReadsL w a8 ls.length ls) (h9 : ReadsL w a9 n9 ls)
    (f8 : ∀ y, a8 = some y → ¬ Sj y.block) (f9 : ∀ y, a9 = some y → ¬ Sj y.block ∧ ¬ Sd y.block ∧ base ≤ y.block) (l9 : ∀ y, a9 = some y → 0 < n9 → y.block < w.heap.size) :
    Calls Try.prog 13 #[.pointer (some ⟨p, 0, none⟩), .agg #[.int .i64 k, .slice a8 ls.length c8]] w fun e w5 => ∃ nv er : Int, e = .returned (.tuple #[.int .i64 nv, .int .i64 er]) ∧ Only Sj w w5 ∧
      Calls Try.prog 26 #[.pointer (some ⟨q, 0, none⟩), .agg #[.int .i64 k, .slice a9 n9 c9]] w5 fun e w6 => e = .returned (.tuple #[.int .i64 nv, .int .i64 er]) ∧ Only Sd w5 w6 ∧ Both Sj Sd base p q i op L k ls a9 w nv er w6 := by
  obtain ⟨⟨v, m, nn, C, vL, vW, D, h1, h2, h3, h4⟩, h5, h6⟩ := h
  have hLD : L.length = D.length := by have := congrArg List.length h3.e; simpa [prP, prE] using this
  have hrow : ∀ a, ((C a).getD noughts).length = 32 := fun a => (h1.mp.row a).1
  have hop := h1.jc.le
  have herr := h3.err hop hrow k ls
  have hn9 : ls.length = n9 := h9.1
  have hS1 : ∀ w5, Only Sj w w5 → DjAt (fun j => Sd j ∨ ∃ y, a9 = some y ∧ y.block = j) w5 q vL vW op D := fun w5 ho => (h2.only ho (fun j a b => (h5 j b).2.2 a)).mono (fun j s => .inl s)
  have hR9 : ∀ w5, Only Sj w w5 → ReadsL w5 a9 n9 ls := fun w5 ho => h9.only ho (fun y e => (f9 y e).1)
  have hF9 : ∀ y, a9 = some y → (Sd y.block ∨ ∃ z, a9 = some z ∧ z.block = y.block) ∧ y.block ≠ q ∧ vL.ownBlock ≠ some y.block ∧ vW.ownBlock ≠ some y.block := fun y e => ⟨.inr ⟨y, e, rfl⟩, fun e2 => (f9 y e).2.1 (by rw [e2]; exact h2.sp), fun e2 => (f9 y e).2.1 (h2.sL _ e2).1, fun e2 => (f9 y e).2.1 (h2.sW _ e2).1⟩
  have hT : ∀ j, (j = q ∨ vL.ownBlock = some j ∨ vW.ownBlock = some j) → Sd j := by
    rintro j (e | e | e)
    · rw [e]; exact h2.sp
    · exact (h2.sL j e).1
    · exact (h2.sW j e).1
  refine (post_any p op v m nn C L k a8 ls.length c8 ls w h1 h8 (by omega) f8).mono ?_
  rintro _ w5 (⟨hne, rfl, ho⟩ | ⟨heq, hck, rfl, ⟨v', m', nn', g, cp, hj⟩, ho⟩)
  · refine ⟨_, _, rfl, ho.mono (fun _ _ f => f.elim), ?_⟩
    have hoj : Only Sj w w5 := ho.mono (fun _ _ f => f.elim)
    refine (rpost_any q op vL vW D k a9 n9 c9 ls w5 (hS1 w5 hoj) (hR9 w5 hoj) (by omega) hF9).mono ?_
    rintro _ w6 (⟨_, rfl, ho2⟩ | ⟨he2, _⟩)
    · have hs := ho.size
      have hs2 := ho2.size
      exact ⟨by rw [herr], ho2.mono (fun _ _ f => f.elim), Sj, Sd, L, ⟨⟨v, m, nn, C, vL, vW, D, (h1.quiet ho).quiet ho2, (h2.quiet ho).quiet ho2, h3, by omega⟩, fun j a => ⟨(h5 j a).1, by have := (h5 j a).2.1; omega, (h5 j a).2.2⟩, fun j a => ⟨(h6 j a).1, by have := (h6 j a).2; omega⟩⟩, fun j s => .inl s, fun j s => .inl s, fun e => absurd e hne⟩
    · exact absurd (herr.trans he2) hne
  · refine ⟨_, _, rfl, ho, ?_⟩
    refine (rpost_any q op vL vW D k a9 n9 c9 ls w5 (hS1 w5 ho) (hR9 w5 ho) (by omega) hF9).mono ?_
    have hlen := ((chk_ok _ _).1 hck).2.1
    rintro _ w6 (⟨hne, _⟩ | ⟨_, _, rfl, ⟨vL', vW', hd⟩, ho2⟩)
    · exact absurd (herr.symm.trans heq) hne
    · have hs := ho.size
      have hs2 := ho2.size
      have ho2' : Only Sd w5 w6 := ho2.mono (fun j _ e => hT j e)
      have hnj : ∀ j, (Sj j ∨ w.heap.size ≤ j) ∧ j < w5.heap.size → ¬ Sd j := fun j hj e => by
        have := (h6 j e).2
        rcases hj.1 with s | s
        · exact (h5 j s).2.2 e
        · omega
      refine ⟨by rw [hLD], ho2', fun j => (Sj j ∨ w.heap.size ≤ j) ∧ j < w5.heap.size, fun j => ((Sd j ∨ ∃ y, a9 = some y ∧ y.block = j) ∨ w5.heap.size ≤ j) ∧ j < w6.heap.size, _, ⟨⟨v', m', nn', _, vL', vW', _, (hj.mono (fun j hlt s => ⟨s, hlt⟩)).only ho2' (fun j a b => hnj j a b), hd.monoS (fun j hlt s => ⟨s, hlt⟩), h3.add hop hrow ls k g ls.length cp a9 n9 c9, by simp; omega⟩, ?_, ?_⟩, fun j s => s.1, ?_, fun _ => ⟨⟨g, cp, rfl⟩, rfl, hlen⟩⟩
      · intro j hj
        have hb := (h6 q h2.sp)
        refine ⟨?_, by omega, fun e => ?_⟩
        · rcases hj.1 with s | s
          · exact (h5 j s).1
          · omega
        · rcases e.1 with (s | ⟨y, e1, e2⟩) | s
          · exact hnj j hj s
          · have h7 := l9 y e1 (by omega)
            rcases hj.1 with t | t
            · exact (f9 y e1).1 (by rw [e2]; exact t)
            · omega
          · omega
      · intro j hj
        refine ⟨?_, hj.2⟩
        rcases hj.1 with (s | ⟨y, e1, e2⟩) | s
        · exact (h6 j s).1
        · rw [← e2]; exact (f9 y e1).2.2
        · have := (h6 q h2.sp); omega
      · intro j hj
        rcases hj.1 with (s | ⟨y, e1, e2⟩) | s
        · exact .inl s
        · exact .inr (.inr ⟨by omega, y, e1, e2⟩)
        · exact .inr (.inl (by omega))
end Go.Proofs.Ytdjiljkdnpmilaa.jnw

namespace Go.Proofs.Ytdjiljkdnpmilaa.jnw
open Go.RowKit mem accm accn entw entm acck bigw intm
set_option linter.unusedVariables false

def blk : Option Addr → Nat
  | some y => y.block
  | none => 0
theorem none_any2 (w : World) : Calls Try.prog 12 #[] w fun e w' => e = .returned (.pointer none) ∧ w = w' := (none_any w).mono (fun e w' h => ⟨h.1, h.2.symm⟩)
theorem ham0 (ls : List Lg) : ls.toArray[0]! = ls.getD 0 default := by cases ls <;> rfl
theorem JDS.mono {Sj Sd : Nat → Prop} {base p q i j op : Nat} {L : List Ps} {w : World} (h : JDS Sj Sd base p q i op L w) (hij : i ≤ j) : JDS Sj Sd base p q j op L w := by
  obtain ⟨⟨v, m, nn, C, vL, vW, D, h1, h2, h3, h4⟩, h5⟩ := h
  exact ⟨⟨v, m, nn, C, vL, vW, D, h1, h2, h3, by omega⟩, h5⟩
theorem JD.mono {base p q i j : Nat} {w : World} (h : JD base p q i w) (hij : i ≤ j) : JD base p q j w := by
  obtain ⟨Sj, Sd, op, L, h⟩ := h
  exact ⟨Sj, Sd, op, L, h.mono hij⟩
theorem dj_new (w : World) : DjAt (fun x => x = w.heap.size) (w.alloc (.cells #[.slice none 0 0, .slice none 0 0, .int .i64 0] 60)) w.heap.size (.slice none 0 0) (.slice none 0 0) 0 [] :=
  ⟨alloc_new _ _ _ _ _ _ rfl rfl, alloc_new _ _ _ _ _ _ rfl rfl, alloc_new _ _ _ _ _ _ rfl rfl, alloc_froz _ _ _ _ _ rfl, alloc_froz _ _ _ _ _ rfl, alloc_froz _ _ _ _ _ rfl, by omega, World.ownsRow_nil _ _ _ _, World.ownsRow_nil _ _ _ _, rfl, fun q e => (by cases e), fun q e => (by cases e), fun x hx => (by cases hx), by simp⟩
set_option maxRecDepth 100000 in
set_option maxHeartbeats 16000000 in
theorem jobs_walk (a : Option Addr) (len cap : Nat) (per : Int) (w : World) (hrow : RowJ w a len) : Calls Try.prog 4 #[.slice a len cap, .int .i64 per] w fun e w' => e = .returned (.bool true) ∧ Only (fun _ => False) w w' := by
  obtain ⟨base, hbase⟩ : ∃ x, x = w.heap.size := ⟨_, rfl⟩
  have HP := Lib.hid hbase
  have HRJ := Lib.hid hrow
  have hlm := hrow.1
  unfold maxLen at hlm
  clear hrow
  go_enter Try.func4, Try.ntmps4
  go_wp2_with fail
  refine (none_any2 _).mono ?_
  rintro _ _ ⟨rfl, rfl⟩
  go_wp2_with fail
  refine (nil_post _).mono ?_
  rintro _ u1 ⟨rfl, ho⟩
  have HU := Lib.hid ho
  clear ho
  go_wp2_with fail
  refine (none_any2 _).mono ?_
  rintro _ _ ⟨rfl, rfl⟩
  go_wp2_with fail
  refine (nil_close _).mono ?_
  rintro _ u2 ⟨rfl, ho⟩
  replace HU := Lib.hid (HU.out.trans ho)
  clear ho
  go_wp2_with fail
  refine (none_any2 _).mono ?_
  rintro _ _ ⟨rfl, rfl⟩
  go_wp2_with fail
  refine (nil_at _).mono ?_
  rintro _ u3 ⟨rfl, ho⟩
  replace HU := Lib.hid (HU.out.trans ho)
  clear ho
  obtain ⟨u4, hu4⟩ : ∃ x, x = u3.alloc (.cells #[.int .i64 0, .slice none 0 0] 25) := ⟨_, rfl⟩
  replace HU := Lib.hid (HU.out.trans (show Only (fun _ => False) u3 u4 by rw [hu4]; exact (Only.refl _ _).alloc _))
  go_upto_region 4 with fail
  simp only [← hu4]
  clear hu4
  go_wp2_with fail
  refine (none_any2 _).mono ?_
  rintro _ _ ⟨rfl, rfl⟩
  go_wp2_with fail
  refine (nil_trial _).mono ?_
  rintro _ u5 ⟨rfl, ho⟩
  replace HU := Lib.hid (HU.out.trans ho)
  clear ho
  go_wp2_with fail
  refine (journals_any _).mono ?_
  rintro _ u6 ⟨rfl, ho⟩
  replace HU := Lib.hid (HU.out.trans ho)
  clear ho
  go_wp2_with fail
  refine (none_any2 _).mono ?_
  rintro _ _ ⟨rfl, rfl⟩
  go_wp2_with fail
  refine (nil_period _).mono ?_
  rintro _ u7 ⟨rfl, ho⟩
  replace HU := Lib.hid (HU.out.trans ho)
  clear ho
  go_wp2_with fail
  refine (none_any2 _).mono ?_
  rintro _ _ ⟨rfl, rfl⟩
  go_wp2_with fail
  refine (nil_len _).mono ?_
  rintro _ u8 ⟨rfl, ho⟩
  replace HU := Lib.hid (HU.out.trans ho)
  clear ho
  go_wp2_with fail
  refine (none_any2 _).mono ?_
  rintro _ _ ⟨rfl, rfl⟩
  go_wp2_with fail
  refine (nil_balance _).mono ?_
  rintro _ u9 ⟨rfl, ho⟩
  replace HU := Lib.hid (HU.out.trans ho)
  clear ho
  go_wp2_with fail
  refine (none_any2 _).mono ?_
  rintro _ _ ⟨rfl, rfl⟩
  go_wp2_with fail
  refine (nil_moved _).mono ?_
  rintro _ u10 ⟨rfl, ho⟩
  replace HU := Lib.hid (HU.out.trans ho)
  clear ho
  go_wp2_with fail
  refine (none_any2 _).mono ?_
  rintro _ _ ⟨rfl, rfl⟩
  go_wp2_with fail
  refine (nil_accounts _).mono ?_
  rintro _ u11 ⟨rfl, ho⟩
  replace HU := Lib.hid (HU.out.trans ho)
  clear ho
  go_wp2_with fail
  refine (new_any _).mono ?_
  rintro _ w1 ⟨rfl, hj, ho⟩
  obtain ⟨p, hp⟩ : ∃ x, x = u11.heap.size := ⟨_, rfl⟩
  rw [← hp] at hj ⊢
  obtain ⟨w2, hw2⟩ : ∃ x, x = w1.alloc (.cells #[.slice none 0 0, .slice none 0 0, .int .i64 0] 60) := ⟨_, rfl⟩
  obtain ⟨q, hq⟩ : ∃ x, x = w1.heap.size := ⟨_, rfl⟩
  have ho2 : Only (fun _ => False) w1 w2 := by rw [hw2]; exact (Only.refl _ _).alloc _
  have hpl : p < w1.heap.size := World.block_lt_of_cell? w1 _ hj.c0
  have HJ2 : Hid (JD base p q 0 w2) := Lib.hid ⟨fun x => x = p, fun x => x = q, 0, [], ⟨_, _, _, _, _, _, [], (JnAt.new (S := fun x => x = p) hj rfl).quiet ho2, by rw [hw2, hq]; exact dj_new w1, Lk.nil 0, Nat.le_refl _⟩, fun x e => by have e : x = p := e; have := HU.out.size; have h3 := ho2.size; exact ⟨by omega, by omega, fun e2 => by have e2 : x = q := e2; omega⟩, fun x e => by have e : x = q := e; have := HU.out.size; have h3 := ho2.size; have h4 : w1.heap.size < w2.heap.size := (by rw [hw2]; simp); exact ⟨by omega, by omega⟩⟩
  have HO2 : Hid (Only (fun x => base ≤ x) w w2) := Lib.hid ((HU.out.trans (ho.trans ho2)).mono (fun _ _ f => f.elim))
  clear hj ho ho2 hpl hp HU
  go_upto_region 8 with fail
  simp only [← hw2, ← hq]
  clear hw2 hq hbase
  go_upto_block 0 with fail
  go_cut [17] from 104 to 240 (fun iv wx => Hid (JD base p q 40 wx) ∧ Hid (Only (fun x => base ≤ x) w wx))
  case first =>
    go_wp2_with fail
    go_loopw [17] (fun iv wr => ∃ i : Nat, i ≤ 40 ∧ iv = .int .i64 (i : Int) ∧ Hid (JD base p q i wr) ∧ Hid (Only (fun x => base ≤ x) w wr)) (fun iv _ => 40 - (intOf iv).toNat)
    case atStart => exact ⟨0, by omega, rfl, HJ2, HO2⟩
    case round =>
      obtain ⟨i, hi, rfl, hJ, HO⟩ := hrel
      rename World => wr
      by_cases h8 : i < len
      · by_cases h20 : i < 40
        · have hin : (i : Int) < len := by omega
          have hi20 : (i : Int) < 40 := by omega
          have hi0 : (0 : Int) ≤ i := by omega
          obtain ⟨Sj, Sd, op, L, hJ⟩ := hJ.out
          have HJ := Lib.hid hJ
          clear hJ
          have HBW : Hid (base ≤ wr.heap.size) := Lib.hid (by have := HO.out.size; have := HP.out; omega)
          obtain ⟨b, off, rfl, hcell⟩ := HRJ.out.2.resolve_left (by omega)
          obtain ⟨⟨what, kind, amt, pa, pn, pc, pl, grp, rk, la, ln, lc, ll⟩, hat, hjin⟩ := hcell i h8
          have HIN : Hid (JbIn wr _) := Lib.hid (hjin.keep (b := base) (by have := HP.out; omega) HO.out)
          obtain ⟨x0, x1, x2, x3, x4, x5, x6⟩ := hat.keep (b := base) (by have := HP.out; omega) HO.out
          dsimp only at x0 x1 x2 x3 x4 x5 x6
          have hwt := tmod_inJ what 3 (by decide) (by decide)
          generalize hwz : wrap64 ((IntKind.u64.wrap what).tmod 3) = z at hwt
          clear hcell hat hjin
          by_cases h2 : z = 2
          · subst h2
            have HCL := Lib.hid (close_any HJ.out)
            have HJS := Lib.hid (HJ.out.2)
            generalize clN op = cn at *
            generalize clE op = ce at *
            go_wp2_with fail
            refine HCL.out.mono ?_
            rintro _ w3 ⟨rfl, ho, hcd⟩
            have HCD := Lib.hid hcd
            have HO3 : Hid (Only (fun x => base ≤ x) w w3) := Lib.hid (HO.out.trans (ho.mono (fun x _ s => (HJS.out.1 x s).1)))
            clear ho hcd HCL
            go_wp2_with fail
            refine HCD.out.mono ?_
            rintro _ w4 ⟨rfl, ho, hj⟩
            have HJ4 := Lib.hid hj
            have HO4 : Hid (Only (fun x => base ≤ x) w w4) := Lib.hid (HO3.out.trans (ho.mono (fun x _ s => (HJS.out.2 x s).1)))
            have b1 : (cn != cn) = false := by simp
            have b2 : (ce != ce) = false := by simp
            clear ho hj HCD HJS hwz x0 x1 x2 x3 x4 x5 x6 HIN
            go_wp2_with fail
            go_roundw
            case rel => exact ⟨i + 1, by omega, by go_num, HJ4, HO4⟩
            case measure => (simp [intOf]; omega)
          · have hzb : (z == 2) = false := by simpa using h2
            have HJB := Lib.hid (job_any what kind amt grp rk pa pn pc pl la ln lc ll wr HIN.out.1 HIN.out.2.1 HIN.out.2.2.1 HIN.out.2.2.2.1 HIN.out.2.2.2.2)
            go_wp2_with fail
            refine HJB.out.mono ?_
            rintro _ w3 ⟨k, ls, v9, a9, n9, c9, rfl, hown, hfr, hrd, hn9, hap, ho, hf9⟩
            obtain ⟨a8, c8, rfl, hab⟩ := ownL_form hown
            have hn9' : ls.length = n9 := hrd.1
            have hrd8 := ownL_reads hown hrd.2.2.1 (by omega)
            have hlt8 : ∀ y, a8 = some y → y.block < w3.heap.size := fun y e => jnw.own_lt hown (hab y e)
            have HG8 : Hid (0 < ls.length → ∃ g, a8 = some ⟨g, 0, none⟩) := Lib.hid (fun h0 => by
              rcases own_form hown with ⟨hv, h1⟩ | ⟨g, cap, hv, _⟩
              · omega
              · injection hv with hv; exact ⟨g, hv⟩)
            obtain ⟨w4, hw4⟩ : ∃ x, x = (w3.alloc (.cells #[.int .i64 k, .slice a8 ls.length c8] 25)).alloc (.cells #[.int .i64 k, .slice a9 n9 c9] 33) := ⟨_, rfl⟩
            obtain ⟨q22, hq22⟩ : ∃ x, x = w3.heap.size := ⟨_, rfl⟩
            obtain ⟨q23, hq23⟩ : ∃ x, x = q22 + 1 := ⟨_, rfl⟩
            have o1 : Only (fun _ => False) (w3.alloc (.cells #[.int .i64 k, .slice a8 ls.length c8] 25)) w4 := by rw [hw4]; exact (Only.refl _ _).alloc _
            have o2 : Only (fun _ => False) w3 w4 := by rw [hw4]; exact ((Only.refl _ _).alloc _).alloc _
            have c0 : w4.cell? ⟨q22, 0, none⟩ = some (.int .i64 k) := o1.cell' (alloc_new _ _ _ _ _ _ hq22 rfl) (fun f => f)
            have c1 : w4.cell? ⟨q22, 1, none⟩ = some (.slice a8 ls.length c8) := o1.cell' (alloc_new _ _ _ _ _ _ hq22 rfl) (fun f => f)
            have hq23' : q23 = (w3.alloc (.cells #[.int .i64 k, .slice a8 ls.length c8] 25)).heap.size := by rw [hq23, hq22]; simp
            have d0 : w4.cell? ⟨q23, 0, none⟩ = some (.int .i64 k) := by rw [hw4]; exact alloc_new _ _ _ _ _ _ hq23' rfl
            have d1 : w4.cell? ⟨q23, 1, none⟩ = some (.slice a9 n9 c9) := by rw [hw4]; exact alloc_new _ _ _ _ _ _ hq23' rfl
            have HO4 := Lib.hid (ho.trans o2)
            have hs4 := HO4.out.size
            have hs34 := o2.size
            have HQW : Hid (wr.heap.size ≤ q22 ∧ q22 < q23 ∧ w3.heap.size ≤ q22 ∧ q23 < w4.heap.size ∧ w3.heap.size ≤ w4.heap.size) := Lib.hid ⟨by have := ho.size; omega, by omega, by omega, World.block_lt_of_cell? w4 _ d0, hs34⟩
            have HJ4 := Lib.hid (HJ.out.quiet HO4.out)
            have HPB := Lib.hid (post_both (i := i) (by omega) HJ4.out k ls a8 c8 a9 n9 c9 (hrd8.only o2 (fun _ _ f => f)) (hrd.only o2 (fun _ _ f => f)) (fun y e s => by have := hfr _ (hab y e); have := (HJ.out.2.1 _ s).2.1; omega) (fun y e => ⟨fun s => by have := hf9 y e; have := (HJ.out.2.1 _ s).2.1; omega, fun s => by have := hf9 y e; have := (HJ.out.2.2 _ s).2; omega, by have := hf9 y e; have := HBW.out; omega⟩) (fun y e h0 => by have := readsL_block hrd e h0; omega))
            have HA8 : Hid (∀ y, a8 = some y → wr.heap.size ≤ y.block ∧ y.block < w3.heap.size) := Lib.hid (fun y e => ⟨hfr _ (hab y e), hlt8 y e⟩)
            have HAP : Hid (∀ y, a9 = some y → 0 < ls.length → ∀ x, a8 = some x → x.block ≠ y.block) := Lib.hid (fun y e h0 x e2 e3 => hap y e (by omega) (by rw [hab x e2, e3]))
            have HF9 : Hid (∀ y, a9 = some y → wr.heap.size ≤ y.block) := Lib.hid hf9
            have HXC4 : Hid (∀ t, t < ls.length → ∃ z : Int, w4.cell? ⟨blk a8, t * 4 + 3, none⟩ = some (.int .i64 z) ∧ w4.frozen? ⟨blk a8, t * 4 + 3, none⟩ = false) := Lib.hid (fun t ht => by
              obtain ⟨g8, rfl⟩ := HG8.out (by omega)
              obtain ⟨b, off, e, hc⟩ := hrd8.2.2.2.resolve_left (by omega)
              injection e with e
              injection e with e1 e2
              subst e1 e2
              have h1 := (hc t ht).2.2.2
              have h1 : w3.cell? ⟨g8, t * 4 + 3, none⟩ = some (.int .i64 (ls.getD t default).a) := by simpa using h1
              have h2 : w3.ownsRow 0 40 4 (.slice (some ⟨g8, 0, none⟩) ls.length c8) ls.length (lv ls) := hown
              exact ⟨_, o2.cell' h1 (fun f => f), (o2.frozen (p := ⟨g8, t * 4 + 3, none⟩) (World.block_lt_of_cell? w3 _ h1) (fun f => f)).trans (h2.frozenAt _)⟩)
            have H94 : Hid (ReadsL w4 a9 n9 ls) := Lib.hid (hrd.only o2 (fun _ _ f => f))
            have HJS := Lib.hid (HJ.out.2)
            subst hn9'
            obtain ⟨ln8, hln8⟩ : ∃ x, ls.length = x := ⟨_, rfl⟩
            have HLN := Lib.hid hln8
            have hl70 : ln8 ≤ 70 := by omega
            rw [hln8] at c1 d1 HPB HXC4 H94 HAP HG8 hw4
            clear hown hfr hrd hrd8 hn9 ho hab hap hf9 hlt8 hwz x0 x1 x2 x3 x4 x5 x6 HIN o1 o2 HJB hs4 hs34 hq23' hln8
            go_upto_region 17 with fail
            try simp only [HLN.out]
            simp only [← hw4, ← hq22]
            simp only [← hq23]
            clear hw4 hq22 hq23
            go_wp2_with fail
            refine HPB.out.mono ?_
            rintro _ w5 ⟨nv, er, rfl, ho5, hdp⟩
            have HDP := Lib.hid hdp
            have nj : ∀ x, wr.heap.size ≤ x → ¬ Sj x := fun x h s => by have := (HJS.out.1 x s).2.1; omega
            have nd : ∀ x, wr.heap.size ≤ x → ¬ Sd x := fun x h s => by have := (HJS.out.2 x s).2; omega
            have hq1 := HQW.out
            have d0' := ho5.cell' d0 (nj _ (by show wr.heap.size ≤ q23; omega))
            have d1' := ho5.cell' d1 (nj _ (by show wr.heap.size ≤ q23; omega))
            have c0' := ho5.cell' c0 (nj _ (by show wr.heap.size ≤ q22; omega))
            have c1' := ho5.cell' c1 (nj _ (by show wr.heap.size ≤ q22; omega))
            have HO5 := Lib.hid ho5
            clear ho5 hdp HPB d0 d1 c0 c1
            go_wp2_with fail
            refine HDP.out.mono ?_
            rintro _ w6 ⟨rfl, ho6, Sj', Sd', L', hb, hsj, hsd, hbe⟩
            have HB6 := Lib.hid hb
            have HSJ := Lib.hid hsj
            have HSD := Lib.hid hsd
            rw [HLN.out] at hbe
            have HBE := Lib.hid hbe
            have HD6 : Hid (w6.cell? ⟨q23, 0, none⟩ = some (.int .i64 k) ∧ w6.cell? ⟨q23, 1, none⟩ = some (.slice a9 ln8 c9)) := Lib.hid ⟨ho6.cell' d0' (nd _ (by show wr.heap.size ≤ q23; omega)), ho6.cell' d1' (nd _ (by show wr.heap.size ≤ q23; omega))⟩
            have HC6 : Hid (w6.cell? ⟨q22, 0, none⟩ = some (.int .i64 k) ∧ w6.cell? ⟨q22, 1, none⟩ = some (.slice a8 ln8 c8)) := Lib.hid ⟨ho6.cell' c0' (nd _ (by show wr.heap.size ≤ q22; omega)), ho6.cell' c1' (nd _ (by show wr.heap.size ≤ q22; omega))⟩
            have H96 : Hid (ReadsL w6 a9 ln8 ls) := Lib.hid ((H94.out.only HO5.out (fun y e => nj _ (HF9.out y e))).only ho6 (fun y e => nd _ (HF9.out y e)))
            have hsz := HO5.out.size
            have hsz6 := ho6.size
            have HXC : Hid (∀ t, t < ln8 → ∃ z : Int, w6.cell? ⟨blk a8, t * 4 + 3, none⟩ = some (.int .i64 z) ∧ w6.frozen? ⟨blk a8, t * 4 + 3, none⟩ = false) := Lib.hid (fun t ht => by
              obtain ⟨z, h1, h2⟩ := HXC4.out t ht
              obtain ⟨g8, rfl⟩ := HG8.out (by omega)
              have hg8 := HA8.out _ rfl
              have h1 : w4.cell? ⟨g8, t * 4 + 3, none⟩ = some (.int .i64 z) := h1
              have h2 : w4.frozen? ⟨g8, t * 4 + 3, none⟩ = false := h2
              have hl := World.block_lt_of_cell? w4 _ h1
              have h3 := HO5.out.cell' h1 (nj _ hg8.1)
              exact ⟨z, ho6.cell' h3 (nd _ hg8.1), (ho6.frozen (p := ⟨g8, t * 4 + 3, none⟩) (World.block_lt_of_cell? w5 _ h3) (nd _ hg8.1)).trans ((HO5.out.frozen (p := ⟨g8, t * 4 + 3, none⟩) hl (nj _ hg8.1)).trans h2)⟩)
            have HO6 : Hid (Only (fun x => base ≤ x) w w6) := Lib.hid (((HO.out.trans (HO4.out.mono (fun _ _ f => f.elim))).trans (HO5.out.mono (fun x _ s => (HJS.out.1 x s).1))).trans (ho6.mono (fun x _ s => (HJS.out.2 x s).1)))
            have HBS : Hid (base ≤ wr.heap.size) := Lib.hid HBW.out
            have b1 : (nv != nv) = false := by simp
            have b2 : (er != er) = false := by simp
            clear hb hsj hsd hbe ho6 HDP d0' d1' c0' c1' nj nd HO5 HXC4 H94 HF9 HJS HJ4 HO4 HO hsz hsz6
            have c0 := HC6.out.1
            have c1 := HC6.out.2
            go_wp2_with fail
            go_loopw [28] (fun iv wx => ∃ t : Nat, t ≤ ln8 ∧ iv = .int .i64 (t : Int) ∧ Hid (∀ t, t < ln8 → ∃ z : Int, wx.cell? ⟨blk a8, t * 4 + 3, none⟩ = some (.int .i64 z) ∧ wx.frozen? ⟨blk a8, t * 4 + 3, none⟩ = false) ∧ Hid (Only (fun x => ∃ y, a8 = some y ∧ y.block = x) w6 wx)) (fun iv _ => ln8 - (intOf iv).toNat)
            case atStart => exact ⟨0, by omega, rfl, HXC, Lib.hid (Only.refl _ _)⟩
            case round =>
              clear HXC
              obtain ⟨t, ht, rfl, HXC, HX⟩ := hrel
              rename World => wx
              have e0 : wx.cell? ⟨q22, 0, none⟩ = some (.int .i64 k) := HX.out.cell' HC6.out.1 (fun ⟨y, e1, e2⟩ => by have := (HA8.out y e1).2; have := HQW.out; simp only at e2; omega)
              have e1 : wx.cell? ⟨q22, 1, none⟩ = some (.slice a8 ln8 c8) := HX.out.cell' HC6.out.2 (fun ⟨y, e1, e2⟩ => by have := (HA8.out y e1).2; have := HQW.out; simp only at e2; omega)
              by_cases ht8 : t < ln8
              · have hti : (t : Int) < (ln8 : Int) := by omega
                have ht0 : (0 : Int) ≤ (t : Int) := by omega
                obtain ⟨g8, rfl⟩ : ∃ g, a8 = some ⟨g, 0, none⟩ := HG8.out (by omega)
                obtain ⟨z, hz, hzf⟩ := HXC.out t ht8
                have hz : wx.cell? ⟨g8, t * 4 + 3, none⟩ = some (.int .i64 z) := hz
                have hzf : wx.frozen? ⟨g8, t * 4 + 3, none⟩ = false := hzf
                have HNX : Hid (∀ u : Int, ∀ t' : Nat, t' < ln8 → ∃ z : Int, (wx.setCell ⟨g8, t * 4 + 3, none⟩ (.int .i64 u)).cell? ⟨g8, t' * 4 + 3, none⟩ = some (.int .i64 z) ∧ (wx.setCell ⟨g8, t * 4 + 3, none⟩ (.int .i64 u)).frozen? ⟨g8, t' * 4 + 3, none⟩ = false) := Lib.hid (fun u t' ht' => by
                  obtain ⟨z', h1, h2⟩ := HXC.out t' ht'
                  by_cases e : t' = t
                  · rw [e]
                    exact ⟨u, cell_same hz, by rw [frozen_set]; exact hzf⟩
                  · exact ⟨z', by rw [cell_other (fun e2 => by injection e2 with _ e2; omega)]; exact h1, by rw [frozen_set]; exact h2⟩)
                have HOX : Hid (∀ u : Value, Only (fun x => ∃ y, (some ⟨g8, 0, none⟩ : Option Addr) = some y ∧ y.block = x) w6 (wx.setCell ⟨g8, t * 4 + 3, none⟩ u)) := Lib.hid (fun u => HX.out.trans ((Only.refl _ wx).setCell (p := ⟨g8, t * 4 + 3, none⟩) (.inl ⟨_, rfl, rfl⟩) u))
                clear HXC HX
                go_wp2_with fail
                go_roundw
                case rel => exact ⟨t + 1, by omega, by go_num, Lib.hid (fun t' h => HNX.out _ t' h), Lib.hid (HOX.out _)⟩
                case measure => (simp [intOf]; omega)
              · have hti : ¬ (t : Int) < (ln8 : Int) := by omega
                have HJ7 : Hid (JDS Sj' Sd' base p q (i + 1) op L' wx) := Lib.hid (HB6.out.only HX.out (fun j ⟨y, e1, e2⟩ => by
                  obtain ⟨r1, r2⟩ := HA8.out y e1
                  have r3 := HQW.out
                  rw [e2] at r1 r2
                  refine ⟨fun s => ?_, fun s => ?_⟩
                  · rcases HSJ.out j s with s | s
                    · have := (HJ.out.2.1 j s).2.1; omega
                    · omega
                  · rcases HSD.out j s with s | s | ⟨s, y2, e3, e4⟩
                    · have := (HJ.out.2.2 j s).2; omega
                    · omega
                    · exact HAP.out y2 e3 (by have := HLN.out; omega) y e1 (by rw [e2, e4])))
                have HO7 : Hid (Only (fun x => base ≤ x) w wx) := Lib.hid (HO6.out.trans (HX.out.mono (fun j _ ⟨y, e1, e2⟩ => by have h1 := (HA8.out y e1).1; have h2 := HBS.out; show base ≤ j; omega)))
                have HD7 : Hid (wx.cell? ⟨q23, 0, none⟩ = some (.int .i64 k) ∧ wx.cell? ⟨q23, 1, none⟩ = some (.slice a9 ln8 c9)) := Lib.hid ⟨HX.out.cell' HD6.out.1 (fun ⟨y, e1, e2⟩ => by have := (HA8.out y e1).2; have := HQW.out; simp only at e2; omega), HX.out.cell' HD6.out.2 (fun ⟨y, e1, e2⟩ => by have := (HA8.out y e1).2; have := HQW.out; simp only at e2; omega)⟩
                have HR9 : Hid (ReadsL wx a9 ln8 ls) := Lib.hid (readsL_keep H96.out HX.out (fun y e h0 ⟨y2, e1, e2⟩ => HAP.out y e (by have := HLN.out; omega) y2 e1 e2))
                have HBSX : Hid (base ≤ wx.heap.size) := Lib.hid (by have := HO7.out.size; have := HP.out; omega)
                clear HXC HX HC6 HD6 H96 HB6 HSJ HSD HAP HA8 HG8 HQW HJ
                clear HBS
                have HBS := HBSX
                clear HBSX
                by_cases he0 : er = 0
                · subst he0
                  obtain ⟨⟨g7, cp7, hL'⟩, hnv, hl2, hl64⟩ := HBE.out rfl
                  subst hL' hnv
                  have hgd : (L ++ [(⟨k, g7, ln8, cp7, op, ls⟩ : Ps)]).getD L.length default = ⟨k, g7, ln8, cp7, op, ls⟩ := by simp [List.getD]
                  have HAT := Lib.hid (by
                    obtain ⟨⟨v, m, nn, C, vL, vW, D, h1, h2, h3, h4⟩, h5, h6⟩ := HJ7.out
                    exact at_any p op v m nn C _ L.length (by simp) k g7 ln8 cp7 op ls hgd wx h1)
                  have HQ2 : Hid (∀ w', Only (fun _ => False) wx w' → w'.cell? ⟨q, 2, none⟩ = some (.int .i64 (op : Int))) := Lib.hid (by
                    obtain ⟨⟨v, m, nn, C, vL, vW, D, h1, h2, h3, h4⟩, h5, h6⟩ := HJ7.out
                    exact fun w' ho => (h2.quiet ho).c2)
                  obtain ⟨b9, off9, rfl, hc9⟩ := (HR9.out).2.2.2.resolve_left (by omega)
                  have hy3 := (hc9 0 (by omega)).2.2.2
                  obtain ⟨am, ham⟩ : ∃ x, x = (ls.getD 0 default).a := ⟨_, rfl⟩
                  rw [← ham] at hy3
                  have hy3 : wx.cell? ⟨b9, off9 + 3, none⟩ = some (.int .i64 am) := by simpa using hy3
                  clear hgd hc9
                  go_wp2_with fail
                  refine HAT.out.mono ?_
                  rintro _ w8 ⟨g, cp, rfl, hownz, hg, ho⟩
                  obtain ⟨w9, hw9⟩ : ∃ x, x = w8.alloc (.cells #[.int .i64 k, .slice (some ⟨g, 0, none⟩) ln8 cp] 25) := ⟨_, rfl⟩
                  obtain ⟨q29, hq29⟩ : ∃ x, x = w8.heap.size := ⟨_, rfl⟩
                  have ho9 : Only (fun _ => False) w8 w9 := by rw [hw9]; exact (Only.refl _ _).alloc _
                  have HO79 : Hid (Only (fun _ => False) wx w9) := Lib.hid (ho.trans ho9)
                  have HGG : Hid (wx.heap.size ≤ g) := Lib.hid hg
                  have hz3 : w8.cell? ⟨g, 3, none⟩ = some (.int .i64 am) := by
                    have hh := (hownz.holds HLN.out.symm).1.cell (i := 0) (by have := HLN.out; simp only [List.size_toArray]; omega) (show 3 < 4 by omega)
                    have hgt : ls.toArray[0]! = ls.getD 0 default := by rw [ham0 ls]
                    rw [hgt] at hh
                    rw [ham]
                    simpa [encL] using hh.1
                  have hf3 : w8.frozen? ⟨g, 3, none⟩ = false := by
                    have h1 : w8.ownsRow 0 40 4 (.slice (some ⟨g, 0, none⟩) ln8 cp) ls.length (lv ls) := hownz
                    rw [HLN.out] at h1
                    exact h1.frozenAt _
                  have HFZ : Hid (w9.frozen? ⟨g, 3, none⟩ = false) := Lib.hid ((ho9.frozen (p := ⟨g, 3, none⟩) (World.block_lt_of_cell? w8 _ hz3) (fun f => f)).trans hf3)
                  have HS27 : Hid (∀ w', Only (fun _ => False) w9 w' → w'.cell? ⟨q, 2, none⟩ = some (.int .i64 (op : Int)) ∧ w'.cell? ⟨q29, 0, none⟩ = some (.int .i64 k) ∧ w'.cell? ⟨q29, 1, none⟩ = some (.slice (some ⟨g, 0, none⟩) ln8 cp) ∧ w'.cell? ⟨q23, 0, none⟩ = some (.int .i64 k) ∧ w'.cell? ⟨q23, 1, none⟩ = some (.slice (some ⟨b9, off9, none⟩) ln8 c9) ∧ w'.cell? ⟨g, 3, none⟩ = some (.int .i64 am) ∧ w'.cell? ⟨b9, off9 + 3, none⟩ = some (.int .i64 am)) := Lib.hid (fun w' h =>
                    ⟨HQ2.out w' (HO79.out.trans h), h.cell' (by rw [hw9]; exact alloc_new _ _ _ _ _ _ hq29 rfl) (fun f => f), h.cell' (by rw [hw9]; exact alloc_new _ _ _ _ _ _ hq29 rfl) (fun f => f), (HO79.out.trans h).cell' HD7.out.1 (fun f => f), (HO79.out.trans h).cell' HD7.out.2 (fun f => f), (ho9.trans h).cell' hz3 (fun f => f), (HO79.out.trans h).cell' hy3 (fun f => f)⟩)
                  have j1 : (0 : Int) < (ln8 : Int) := by omega
                  have j2 : 0 < ln8 := by omega
                  clear hg hownz hz3 hf3 hy3 ho ho9 HAT HQ2 ham e0 e1 hti c0 c1
                  go_upto_region 27 with fail
                  simp only [← hw9, ← hq29]
                  clear hw9 hq29
                  refine wp_region_noPanic ?_
                  refine late.region (fun w' => w'.cell? ⟨q, 2, none⟩ = some (.int .i64 (op : Int)) ∧ w'.cell? ⟨q29, 0, none⟩ = some (.int .i64 k) ∧ w'.cell? ⟨q29, 1, none⟩ = some (.slice (some ⟨g, 0, none⟩) ln8 cp) ∧ w'.cell? ⟨q23, 0, none⟩ = some (.int .i64 k) ∧ w'.cell? ⟨q23, 1, none⟩ = some (.slice (some ⟨b9, off9, none⟩) ln8 c9) ∧ w'.cell? ⟨g, 3, none⟩ = some (.int .i64 am) ∧ w'.cell? ⟨b9, off9 + 3, none⟩ = some (.int .i64 am)) (fun j => [].contains j) (by kernel_rfl) (HS27.out _ (Only.refl _ _).drew) (fun hHeld => ?_)
                  obtain ⟨z0, hz0⟩ : ∃ x, x = w9.drew := ⟨_, rfl⟩
                  rw [← hz0] at hHeld ⊢
                  have hot : Hid (Only (fun _ => False) w9 z0) := Lib.hid (by rw [hz0]; exact (Only.refl _ _).drew)
                  clear hz0
                  refine late.take (i := 0) [1, 2, 3, 4, 5, 6, 7, 8, 9, 10, 11, 12, 13, 14, 15, 16, 17, 18, 19, 20, 21, 22, 23, 24, 25, 26, 27, 28, 29, 30, 31, 32, 33, 34, 35, 36, 37, 38] (v := ?_) rfl (by kernel_rfl) (by kernel_rfl) (by kernel_rfl) (by kernel_rfl) (fun _ _ _ h => h) (Or.inl ⟨by rfl, ?_⟩) (by assumption) ?_
                  rotate_left 1
                  · intro w' hSw
                    try dsimp only at hSw
                    go_simp
                    try with_reducible rfl
                  try simp only [List.getElem_toArray, List.getElem_cons_zero, Act.put, List.setIfInBounds_toArray, List.set_cons_zero, List.set_cons_succ]
                  refine late.take (i := 1) [2, 3, 4, 5, 6, 7, 8, 9, 10, 11, 12, 13, 14, 15, 16, 17, 18, 19, 20, 21, 22, 23, 24, 25, 26, 27, 28, 29, 30, 31, 32, 33, 34, 35, 36, 37, 38] (v := ?_) rfl (by kernel_rfl) (by kernel_rfl) (by kernel_rfl) (by kernel_rfl) (fun _ _ _ h => h) (Or.inl ⟨by rfl, ?_⟩) (by assumption) ?_
                  rotate_left 1
                  · intro w' hSw
                    try dsimp only at hSw
                    go_simp
                    try with_reducible rfl
                  try simp only [List.getElem_toArray, List.getElem_cons_zero, List.getElem_cons_succ, Act.put, List.setIfInBounds_toArray, List.set_cons_zero, List.set_cons_succ]
                  refine late.take (i := 2) [3, 4, 5, 6, 7, 8, 9, 10, 11, 12, 13, 14, 15, 16, 17, 18, 19, 20, 21, 22, 23, 24, 25, 26, 27, 28, 29, 30, 31, 32, 33, 34, 35, 36, 37, 38] (v := ?_) rfl (by kernel_rfl) (by kernel_rfl) (by kernel_rfl) (by kernel_rfl) (fun _ _ _ h => h) (Or.inl ⟨by rfl, ?_⟩) (by assumption) ?_
                  rotate_left 1
                  · intro w' hSw
                    try dsimp only at hSw
                    go_simp
                    try with_reducible rfl
                  try simp only [List.getElem_toArray, List.getElem_cons_zero, List.getElem_cons_succ, Act.put, List.setIfInBounds_toArray, List.set_cons_zero, List.set_cons_succ]
                  refine late.take (i := 3) [8, 9, 10, 11, 12, 13, 14, 15, 16, 17, 18, 19, 20, 21, 22, 23, 24, 25, 26, 27, 28, 29, 30, 31, 32, 33, 34, 35, 36, 37, 38] (v := ?_) rfl (by kernel_rfl) (by kernel_rfl) (by kernel_rfl) (by kernel_rfl) (fun _ _ _ h => h) (Or.inl ⟨by rfl, ?_⟩) (by assumption) ?_
                  rotate_left 1
                  · intro w' hSw
                    try dsimp only at hSw
                    go_simp
                    try with_reducible rfl
                  try simp only [List.getElem_toArray, List.getElem_cons_zero, List.getElem_cons_succ, Act.put, List.setIfInBounds_toArray, List.set_cons_zero, List.set_cons_succ]
                  refine late.take (i := 4) [5, 6, 7, 8, 9, 10, 11, 12, 13, 14, 15, 16, 17, 18, 19, 20, 21, 22, 23, 24, 25, 26, 27, 28, 29, 30, 31, 32, 33, 34, 35, 36, 37, 38] (v := ?_) rfl (by kernel_rfl) (by kernel_rfl) (by kernel_rfl) (by kernel_rfl) (fun _ _ _ h => h) (Or.inl ⟨by rfl, ?_⟩) (by assumption) ?_
                  rotate_left 1
                  · intro w' hSw
                    try dsimp only at hSw
                    go_simp
                    try with_reducible rfl
                  try simp only [List.getElem_toArray, List.getElem_cons_zero, List.getElem_cons_succ, Act.put, List.setIfInBounds_toArray, List.set_cons_zero, List.set_cons_succ]
                  refine late.take (i := 5) [6, 7, 8, 9, 10, 11, 12, 13, 14, 15, 16, 17, 18, 19, 20, 21, 22, 23, 24, 25, 26, 27, 28, 29, 30, 31, 32, 33, 34, 35, 36, 37, 38] (v := ?_) rfl (by kernel_rfl) (by kernel_rfl) (by kernel_rfl) (by kernel_rfl) (fun _ _ _ h => h) (Or.inl ⟨by rfl, ?_⟩) (by assumption) ?_
                  rotate_left 1
                  · intro w' hSw
                    try dsimp only at hSw
                    go_simp
                    try with_reducible rfl
                  try simp only [List.getElem_toArray, List.getElem_cons_zero, List.getElem_cons_succ, Act.put, List.setIfInBounds_toArray, List.set_cons_zero, List.set_cons_succ]
                  refine late.take (i := 6) [7, 8, 9, 10, 11, 12, 13, 14, 15, 16, 17, 18, 19, 20, 21, 22, 23, 24, 25, 26, 27, 28, 29, 30, 31, 32, 33, 34, 35, 36, 37, 38] (v := ?_) rfl (by kernel_rfl) (by kernel_rfl) (by kernel_rfl) (by kernel_rfl) (fun _ _ _ h => h) (Or.inl ⟨by rfl, ?_⟩) (by assumption) ?_
                  rotate_left 1
                  · intro w' hSw
                    try dsimp only at hSw
                    go_simp
                    try with_reducible rfl
                  try simp only [List.getElem_toArray, List.getElem_cons_zero, List.getElem_cons_succ, Act.put, List.setIfInBounds_toArray, List.set_cons_zero, List.set_cons_succ]
                  refine late.take (i := 7) [8, 9, 10, 11, 12, 13, 14, 15, 16, 17, 18, 19, 20, 21, 22, 23, 24, 25, 26, 27, 28, 29, 30, 31, 32, 33, 34, 35, 36, 37, 38] (v := ?_) rfl (by kernel_rfl) (by kernel_rfl) (by kernel_rfl) (by kernel_rfl) (fun _ _ _ h => h) (Or.inl ⟨by rfl, ?_⟩) (by assumption) ?_
                  rotate_left 1
                  · intro w' hSw
                    try dsimp only at hSw
                    go_simp
                    try with_reducible rfl
                  try simp only [List.getElem_toArray, List.getElem_cons_zero, List.getElem_cons_succ, Act.put, List.setIfInBounds_toArray, List.set_cons_zero, List.set_cons_succ]
                  refine late.take (i := 8) [9, 10, 11, 12, 13, 14, 15, 16, 17, 18, 19, 20, 21, 22, 23, 24, 25, 26, 27, 28, 29, 30, 31, 32, 33, 34, 35, 36, 37, 38] (v := ?_) rfl (by kernel_rfl) (by kernel_rfl) (by kernel_rfl) (by kernel_rfl) (fun _ _ _ h => h) (Or.inl ⟨by rfl, ?_⟩) (by assumption) ?_
                  rotate_left 1
                  · intro w' hSw
                    try dsimp only at hSw
                    go_simp
                    try with_reducible rfl
                  try simp only [List.getElem_toArray, List.getElem_cons_zero, List.getElem_cons_succ, Act.put, List.setIfInBounds_toArray, List.set_cons_zero, List.set_cons_succ]
                  refine late.take (i := 9) [10, 11, 12, 13, 14, 15, 16, 17, 18, 19, 20, 21, 22, 23, 24, 25, 26, 27, 28, 29, 30, 31, 32, 33, 34, 35, 36, 37, 38] (v := ?_) rfl (by kernel_rfl) (by kernel_rfl) (by kernel_rfl) (by kernel_rfl) (fun _ _ _ h => h) (Or.inl ⟨by rfl, ?_⟩) (by assumption) ?_
                  rotate_left 1
                  · intro w' hSw
                    try dsimp only at hSw
                    go_simp
                    try with_reducible rfl
                  try simp only [List.getElem_toArray, List.getElem_cons_zero, List.getElem_cons_succ, Act.put, List.setIfInBounds_toArray, List.set_cons_zero, List.set_cons_succ]
                  refine late.take (i := 10) [11, 12, 13, 14, 15, 16, 17, 18, 19, 20, 21, 22, 23, 24, 25, 26, 27, 28, 29, 30, 31, 32, 33, 34, 35, 36, 37, 38] (v := ?_) rfl (by kernel_rfl) (by kernel_rfl) (by kernel_rfl) (by kernel_rfl) (fun _ _ _ h => h) (Or.inl ⟨by rfl, ?_⟩) (by assumption) ?_
                  rotate_left 1
                  · intro w' hSw
                    try dsimp only at hSw
                    go_simp
                    try with_reducible rfl
                  try simp only [List.getElem_toArray, List.getElem_cons_zero, List.getElem_cons_succ, Act.put, List.setIfInBounds_toArray, List.set_cons_zero, List.set_cons_succ]
                  refine late.take (i := 11) [12, 13, 17, 18, 19, 20, 21, 22, 23, 24, 25, 26, 27, 28, 29, 30, 31, 32, 33, 34, 35, 36, 37, 38] (v := ?_) rfl (by kernel_rfl) (by kernel_rfl) (by kernel_rfl) (by kernel_rfl) (fun _ _ _ h => h) (Or.inl ⟨by rfl, ?_⟩) (by assumption) ?_
                  rotate_left 1
                  · intro w' hSw
                    try dsimp only at hSw
                    go_simp
                    try with_reducible rfl
                  try simp only [List.getElem_toArray, List.getElem_cons_zero, List.getElem_cons_succ, Act.put, List.setIfInBounds_toArray, List.set_cons_zero, List.set_cons_succ]
                  refine late.take (i := 12) [13, 17, 18, 19, 20, 21, 22, 23, 24, 25, 26, 27, 28, 29, 30, 31, 32, 33, 34, 35, 36, 37, 38] (v := ?_) rfl (by kernel_rfl) (by kernel_rfl) (by kernel_rfl) (by kernel_rfl) (fun _ _ _ h => h) (Or.inl ⟨by rfl, ?_⟩) (by assumption) ?_
                  rotate_left 1
                  · intro w' hSw
                    try dsimp only at hSw
                    go_simp
                    try with_reducible rfl
                  try simp only [List.getElem_toArray, List.getElem_cons_zero, List.getElem_cons_succ, Act.put, List.setIfInBounds_toArray, List.set_cons_zero, List.set_cons_succ]
                  refine late.take (i := 13) [17, 18, 19, 20, 21, 22, 23, 24, 25, 26, 27, 28, 29, 30, 31, 32, 33, 34, 35, 36, 37, 38] (v := ?_) rfl (by kernel_rfl) (by kernel_rfl) (by kernel_rfl) (by kernel_rfl) (fun _ _ _ h => h) (Or.inl ⟨by rfl, ?_⟩) (by assumption) ?_
                  rotate_left 1
                  · intro w' hSw
                    try dsimp only at hSw
                    go_simp
                    try with_reducible rfl
                  try simp only [List.getElem_toArray, List.getElem_cons_zero, List.getElem_cons_succ, Act.put, List.setIfInBounds_toArray, List.set_cons_zero, List.set_cons_succ]
                  refine late.take (i := 14) [15, 16, 17, 18, 19, 20, 21, 22, 23, 24, 25, 26, 27, 28, 29, 30, 31, 32, 33, 34, 35, 36, 37, 38] (v := ?_) rfl (by kernel_rfl) (by kernel_rfl) (by kernel_rfl) (by kernel_rfl) (fun _ _ _ h => h) (Or.inl ⟨by rfl, ?_⟩) (by assumption) ?_
                  rotate_left 1
                  · intro w' hSw
                    try dsimp only at hSw
                    go_simp
                    try with_reducible rfl
                  try simp only [List.getElem_toArray, List.getElem_cons_zero, List.getElem_cons_succ, Act.put, List.setIfInBounds_toArray, List.set_cons_zero, List.set_cons_succ]
                  refine late.take (i := 15) [16, 17, 18, 19, 20, 21, 22, 23, 24, 25, 26, 27, 28, 29, 30, 31, 32, 33, 34, 35, 36, 37, 38] (v := ?_) rfl (by kernel_rfl) (by kernel_rfl) (by kernel_rfl) (by kernel_rfl) (fun _ _ _ h => h) (Or.inl ⟨by rfl, ?_⟩) (by assumption) ?_
                  rotate_left 1
                  · intro w' hSw
                    try dsimp only at hSw
                    go_simp
                    try with_reducible rfl
                  try simp only [List.getElem_toArray, List.getElem_cons_zero, List.getElem_cons_succ, Act.put, List.setIfInBounds_toArray, List.set_cons_zero, List.set_cons_succ]
                  refine late.take (i := 16) [17, 18, 19, 20, 21, 22, 23, 24, 25, 26, 27, 28, 29, 30, 31, 32, 33, 34, 35, 36, 37, 38] (v := ?_) rfl (by kernel_rfl) (by kernel_rfl) (by kernel_rfl) (by kernel_rfl) (fun _ _ _ h => h) (Or.inl ⟨by rfl, ?_⟩) (by assumption) ?_
                  rotate_left 1
                  · intro w' hSw
                    try dsimp only at hSw
                    go_simp
                    try with_reducible rfl
                  try simp only [List.getElem_toArray, List.getElem_cons_zero, List.getElem_cons_succ, Act.put, List.setIfInBounds_toArray, List.set_cons_zero, List.set_cons_succ]
                  refine late.take (i := 17) [18, 19, 20, 21, 22, 23, 24, 25, 26, 27, 28, 29, 30, 31, 32, 33, 34, 35, 36, 37, 38] (v := ?_) rfl (by kernel_rfl) (by kernel_rfl) (by kernel_rfl) (by kernel_rfl) (fun _ _ _ h => h) (Or.inl ⟨by rfl, ?_⟩) (by assumption) ?_
                  rotate_left 1
                  · intro w' hSw
                    try dsimp only at hSw
                    go_simp
                    try with_reducible rfl
                  try simp only [List.getElem_toArray, List.getElem_cons_zero, List.getElem_cons_succ, Act.put, List.setIfInBounds_toArray, List.set_cons_zero, List.set_cons_succ]
                  refine late.take (i := 18) [19, 20, 21, 22, 23, 24, 25, 26, 27, 28, 29, 30, 31, 32, 33, 34, 35, 36, 37, 38] (v := ?_) rfl (by kernel_rfl) (by kernel_rfl) (by kernel_rfl) (by kernel_rfl) (fun _ _ _ h => h) (Or.inl ⟨by rfl, ?_⟩) (by assumption) ?_
                  rotate_left 1
                  · intro w' hSw
                    try dsimp only at hSw
                    go_simp
                    try with_reducible rfl
                  try simp only [List.getElem_toArray, List.getElem_cons_zero, List.getElem_cons_succ, Act.put, List.setIfInBounds_toArray, List.set_cons_zero, List.set_cons_succ]
                  refine late.take (i := 19) [20, 21, 22, 23, 24, 25, 26, 27, 28, 29, 30, 31, 32, 33, 34, 35, 36, 37, 38] (v := ?_) rfl (by kernel_rfl) (by kernel_rfl) (by kernel_rfl) (by kernel_rfl) (fun _ _ _ h => h) (Or.inl ⟨by rfl, ?_⟩) (by assumption) ?_
                  rotate_left 1
                  · intro w' hSw
                    try dsimp only at hSw
                    go_simp
                    try with_reducible rfl
                  try simp only [List.getElem_toArray, List.getElem_cons_zero, List.getElem_cons_succ, Act.put, List.setIfInBounds_toArray, List.set_cons_zero, List.set_cons_succ]
                  refine late.take (i := 20) [21, 24, 25, 26, 27, 28, 29, 30, 31, 32, 33, 34, 35, 36, 37, 38] (v := ?_) rfl (by kernel_rfl) (by kernel_rfl) (by kernel_rfl) (by kernel_rfl) (fun _ _ _ h => h) (Or.inl ⟨by rfl, ?_⟩) (by assumption) ?_
                  rotate_left 1
                  · intro w' hSw
                    try dsimp only at hSw
                    go_simp
                    try with_reducible rfl
                  try simp only [List.getElem_toArray, List.getElem_cons_zero, List.getElem_cons_succ, Act.put, List.setIfInBounds_toArray, List.set_cons_zero, List.set_cons_succ]
                  refine late.take (i := 21) [24, 25, 26, 27, 28, 29, 30, 31, 32, 33, 34, 35, 36, 37, 38] (v := ?_) rfl (by kernel_rfl) (by kernel_rfl) (by kernel_rfl) (by kernel_rfl) (fun _ _ _ h => h) (Or.inl ⟨by rfl, ?_⟩) (by assumption) ?_
                  rotate_left 1
                  · intro w' hSw
                    try dsimp only at hSw
                    go_simp
                    try with_reducible rfl
                  try simp only [List.getElem_toArray, List.getElem_cons_zero, List.getElem_cons_succ, Act.put, List.setIfInBounds_toArray, List.set_cons_zero, List.set_cons_succ]
                  refine late.take (i := 22) [23, 24, 25, 26, 27, 28, 29, 30, 31, 32, 33, 34, 35, 36, 37, 38] (v := ?_) rfl (by kernel_rfl) (by kernel_rfl) (by kernel_rfl) (by kernel_rfl) (fun _ _ _ h => h) (Or.inl ⟨by rfl, ?_⟩) (by assumption) ?_
                  rotate_left 1
                  · intro w' hSw
                    try dsimp only at hSw
                    go_simp
                    try with_reducible rfl
                  try simp only [List.getElem_toArray, List.getElem_cons_zero, List.getElem_cons_succ, Act.put, List.setIfInBounds_toArray, List.set_cons_zero, List.set_cons_succ]
                  refine late.take (i := 23) [24, 25, 26, 27, 28, 29, 30, 31, 32, 33, 34, 35, 36, 37, 38] (v := ?_) rfl (by kernel_rfl) (by kernel_rfl) (by kernel_rfl) (by kernel_rfl) (fun _ _ _ h => h) (Or.inl ⟨by rfl, ?_⟩) (by assumption) ?_
                  rotate_left 1
                  · intro w' hSw
                    try dsimp only at hSw
                    go_simp
                    try with_reducible rfl
                  try simp only [List.getElem_toArray, List.getElem_cons_zero, List.getElem_cons_succ, Act.put, List.setIfInBounds_toArray, List.set_cons_zero, List.set_cons_succ]
                  refine late.take (i := 24) [25, 26, 27, 28, 29, 30, 31, 32, 33, 34, 35, 36, 37, 38] (v := ?_) rfl (by kernel_rfl) (by kernel_rfl) (by kernel_rfl) (by kernel_rfl) (fun _ _ _ h => h) (Or.inl ⟨by rfl, ?_⟩) (by assumption) ?_
                  rotate_left 1
                  · intro w' hSw
                    try dsimp only at hSw
                    go_simp
                    try with_reducible rfl
                  try simp only [List.getElem_toArray, List.getElem_cons_zero, List.getElem_cons_succ, Act.put, List.setIfInBounds_toArray, List.set_cons_zero, List.set_cons_succ]
                  refine late.take (i := 25) [26, 27, 28, 29, 30, 31, 32, 33, 34, 35, 36, 37, 38] (v := ?_) rfl (by kernel_rfl) (by kernel_rfl) (by kernel_rfl) (by kernel_rfl) (fun _ _ _ h => h) (Or.inl ⟨by rfl, ?_⟩) (by assumption) ?_
                  rotate_left 1
                  · intro w' hSw
                    try dsimp only at hSw
                    go_simp
                    try with_reducible rfl
                  try simp only [List.getElem_toArray, List.getElem_cons_zero, List.getElem_cons_succ, Act.put, List.setIfInBounds_toArray, List.set_cons_zero, List.set_cons_succ]
                  refine late.take (i := 26) [27, 28, 29, 30, 31, 32, 33, 34, 35, 36, 37, 38] (v := ?_) rfl (by kernel_rfl) (by kernel_rfl) (by kernel_rfl) (by kernel_rfl) (fun _ _ _ h => h) (Or.inl ⟨by rfl, ?_⟩) (by assumption) ?_
                  rotate_left 1
                  · intro w' hSw
                    try dsimp only at hSw
                    go_simp
                    try with_reducible rfl
                  try simp only [List.getElem_toArray, List.getElem_cons_zero, List.getElem_cons_succ, Act.put, List.setIfInBounds_toArray, List.set_cons_zero, List.set_cons_succ]
                  refine late.take (i := 27) [28, 29, 30, 31, 37, 38] (v := ?_) rfl (by kernel_rfl) (by kernel_rfl) (by kernel_rfl) (by kernel_rfl) (fun _ _ _ h => h) (Or.inl ⟨by rfl, ?_⟩) (by assumption) ?_
                  rotate_left 1
                  · intro w' hSw
                    try dsimp only at hSw
                    go_simp
                    try with_reducible rfl
                  try simp only [List.getElem_toArray, List.getElem_cons_zero, List.getElem_cons_succ, Act.put, List.setIfInBounds_toArray, List.set_cons_zero, List.set_cons_succ]
                  refine late.take (i := 28) [29, 30, 31, 37, 38] (v := ?_) rfl (by kernel_rfl) (by kernel_rfl) (by kernel_rfl) (by kernel_rfl) (fun _ _ _ h => h) (Or.inl ⟨by rfl, ?_⟩) (by assumption) ?_
                  rotate_left 1
                  · intro w' hSw
                    try dsimp only at hSw
                    go_simp
                    try with_reducible rfl
                  try simp only [List.getElem_toArray, List.getElem_cons_zero, List.getElem_cons_succ, Act.put, List.setIfInBounds_toArray, List.set_cons_zero, List.set_cons_succ]
                  refine late.take (i := 29) [30, 31, 37, 38] (v := ?_) rfl (by kernel_rfl) (by kernel_rfl) (by kernel_rfl) (by kernel_rfl) (fun _ _ _ h => h) (Or.inl ⟨by rfl, ?_⟩) (by assumption) ?_
                  rotate_left 1
                  · intro w' hSw
                    try dsimp only at hSw
                    go_simp
                    try with_reducible rfl
                  try simp only [List.getElem_toArray, List.getElem_cons_zero, List.getElem_cons_succ, Act.put, List.setIfInBounds_toArray, List.set_cons_zero, List.set_cons_succ]
                  refine late.take (i := 30) [31, 37, 38] (v := ?_) rfl (by kernel_rfl) (by kernel_rfl) (by kernel_rfl) (by kernel_rfl) (fun _ _ _ h => h) (Or.inl ⟨by rfl, ?_⟩) (by assumption) ?_
                  rotate_left 1
                  · intro w' hSw
                    try dsimp only at hSw
                    go_simp
                    try with_reducible rfl
                  try simp only [List.getElem_toArray, List.getElem_cons_zero, List.getElem_cons_succ, Act.put, List.setIfInBounds_toArray, List.set_cons_zero, List.set_cons_succ]
                  refine late.take (i := 31) [37, 38] (v := ?_) rfl (by kernel_rfl) (by kernel_rfl) (by kernel_rfl) (by kernel_rfl) (fun _ _ _ h => h) (Or.inl ⟨by rfl, ?_⟩) (by assumption) ?_
                  rotate_left 1
                  · intro w' hSw
                    try dsimp only at hSw
                    go_simp
                    try with_reducible rfl
                  try simp only [List.getElem_toArray, List.getElem_cons_zero, List.getElem_cons_succ, Act.put, List.setIfInBounds_toArray, List.set_cons_zero, List.set_cons_succ]
                  refine late.take (i := 32) [33, 34, 35, 36, 37, 38] (v := ?_) rfl (by kernel_rfl) (by kernel_rfl) (by kernel_rfl) (by kernel_rfl) (fun _ _ _ h => h) (Or.inl ⟨by rfl, ?_⟩) (by assumption) ?_
                  rotate_left 1
                  · intro w' hSw
                    try dsimp only at hSw
                    go_simp
                    try with_reducible rfl
                  try simp only [List.getElem_toArray, List.getElem_cons_zero, List.getElem_cons_succ, Act.put, List.setIfInBounds_toArray, List.set_cons_zero, List.set_cons_succ]
                  refine late.take (i := 33) [34, 35, 36, 37, 38] (v := ?_) rfl (by kernel_rfl) (by kernel_rfl) (by kernel_rfl) (by kernel_rfl) (fun _ _ _ h => h) (Or.inl ⟨by rfl, ?_⟩) (by assumption) ?_
                  rotate_left 1
                  · intro w' hSw
                    try dsimp only at hSw
                    go_simp
                    try with_reducible rfl
                  try simp only [List.getElem_toArray, List.getElem_cons_zero, List.getElem_cons_succ, Act.put, List.setIfInBounds_toArray, List.set_cons_zero, List.set_cons_succ]
                  refine late.take (i := 34) [35, 36, 37, 38] (v := ?_) rfl (by kernel_rfl) (by kernel_rfl) (by kernel_rfl) (by kernel_rfl) (fun _ _ _ h => h) (Or.inl ⟨by rfl, ?_⟩) (by assumption) ?_
                  rotate_left 1
                  · intro w' hSw
                    try dsimp only at hSw
                    go_simp
                    try with_reducible rfl
                  try simp only [List.getElem_toArray, List.getElem_cons_zero, List.getElem_cons_succ, Act.put, List.setIfInBounds_toArray, List.set_cons_zero, List.set_cons_succ]
                  refine late.take (i := 35) [36, 37, 38] (v := ?_) rfl (by kernel_rfl) (by kernel_rfl) (by kernel_rfl) (by kernel_rfl) (fun _ _ _ h => h) (Or.inl ⟨by rfl, ?_⟩) (by assumption) ?_
                  rotate_left 1
                  · intro w' hSw
                    try dsimp only at hSw
                    go_simp
                    try with_reducible rfl
                  try simp only [List.getElem_toArray, List.getElem_cons_zero, List.getElem_cons_succ, Act.put, List.setIfInBounds_toArray, List.set_cons_zero, List.set_cons_succ]
                  refine late.take (i := 36) [37, 38] (v := ?_) rfl (by kernel_rfl) (by kernel_rfl) (by kernel_rfl) (by kernel_rfl) (fun _ _ _ h => h) (Or.inl ⟨by rfl, ?_⟩) (by assumption) ?_
                  rotate_left 1
                  · intro w' hSw
                    try dsimp only at hSw
                    go_simp
                    try with_reducible rfl
                  try simp only [List.getElem_toArray, List.getElem_cons_zero, List.getElem_cons_succ, Act.put, List.setIfInBounds_toArray, List.set_cons_zero, List.set_cons_succ]
                  refine late.take (i := 37) [38] (v := ?_) rfl (by kernel_rfl) (by kernel_rfl) (by kernel_rfl) (by kernel_rfl) (fun _ _ _ h => h) (Or.inl ⟨by rfl, ?_⟩) (by assumption) ?_
                  rotate_left 1
                  · intro w' hSw
                    try dsimp only at hSw
                    go_simp
                    try with_reducible rfl
                  try simp only [List.getElem_toArray, List.getElem_cons_zero, List.getElem_cons_succ, Act.put, List.setIfInBounds_toArray, List.set_cons_zero, List.set_cons_succ]
                  refine late.take (i := 38) [] (v := ?_) rfl (by kernel_rfl) (by kernel_rfl) (by kernel_rfl) (by kernel_rfl) (fun _ _ _ h => h) (Or.inl ⟨by rfl, ?_⟩) (by assumption) ?_
                  rotate_left 1
                  · intro w' hSw
                    try dsimp only at hSw
                    go_simp
                    try with_reducible rfl
                  try simp only [List.getElem_toArray, List.getElem_cons_zero, List.getElem_cons_succ, Act.put, List.setIfInBounds_toArray, List.set_cons_zero, List.set_cons_succ]
                  refine late.done (by kernel_rfl) ?_ _
                  refine NoPanic.normal ?_
                  obtain ⟨-, s0, s1, -, -, s2, -⟩ := HS27.out _ hot.out
                  have HZO := Lib.hid hot.out
                  have s4 : z0.frozen? ⟨g, 3, none⟩ = false := ((HZO.out.frozen (p := ⟨g, 3, none⟩) (World.block_lt_of_cell? w9 _ (HS27.out _ (Only.refl _ _)).2.2.2.2.2.1) (fun f => f)).trans HFZ.out)
                  clear hHeld hot HS27
                  obtain ⟨w10, hw10⟩ : ∃ y, y = z0.setCell ⟨g, 3, none⟩ (.int .i64 (wrap64 (am + 1))) := ⟨_, rfl⟩
                  have ho10 : Only (fun x => x = g) z0 w10 := by rw [hw10]; exact (Only.refl (fun x => x = g) z0).setCell (p := ⟨g, 3, none⟩) (.inl rfl) _
                  have HJ10 : Hid (JD base p q (i + 1) w10) := Lib.hid ⟨Sj', Sd', op, _, ((HJ7.out.quiet (HO79.out.trans HZO.out)).only ho10 (fun j e => by
                    have hg := HGG.out
                    have e : j = g := e
                    exact ⟨fun s => by have := (HJ7.out.2.1 j s).2.1; omega, fun s => by have := (HJ7.out.2.2 j s).2; omega⟩))⟩
                  have HO10 : Hid (Only (fun x => base ≤ x) w w10) := Lib.hid ((HO7.out.trans ((HO79.out.trans HZO.out).mono (fun _ _ f => f.elim))).trans (ho10.mono (fun j _ e => by have e : j = g := e; have := HGG.out; have := HBS.out; omega)))
                  clear ho10 HZO
                  have hw10' : z0.setCell ⟨g, 3, none⟩ (.int .i64 (wrap64 (am + 1))) = w10 := hw10.symm
                  clear hw10
                  go_upto_region 10 with fail
                  try simp only [hw10']
                  clear hw10' s0 s1 s2 s4
                  go_wp2_with fail
                  go_roundw
                  case rel => exact ⟨i + 1, by omega, by go_num, HJ10, HO10⟩
                  case measure => (simp [intOf]; omega)
                · have heb : (er == 0) = false := by simpa using he0
                  have HJE : Hid (JD base p q (i + 1) wx) := Lib.hid ⟨_, _, _, _, HJ7.out⟩
                  clear HBE HJ7 HD7 HR9
                  go_wp2_with fail
                  go_roundw
                  case rel => exact ⟨i + 1, by omega, by go_num, HJE, HO7⟩
                  case measure => (simp [intOf]; omega)
        · have hi20 : ¬ (i : Int) < 40 := by omega
          have hin : (i : Int) < len := by omega
          go_wp2_with fail
          go_meet
          exact ⟨Lib.hid (hJ.out.mono hi), HO⟩
      · have hin : ¬ (i : Int) < len := by omega
        go_wp2_with fail
        go_meet
        exact ⟨Lib.hid (hJ.out.mono hi), HO⟩
  obtain ⟨Sj, Sd, op, L, ⟨v, m, nn, C, vL, vW, D, h1, h2, h3, -⟩, -⟩ := hcut.1.out
  have HO3 := hcut.2
  rename World => wc
  obtain ⟨aP, cP, rfl, -⟩ := h1.own.reads
  have HJF := Lib.hid h1
  have HDF := Lib.hid h2
  have HLF := Lib.hid h3
  have HFIN : Hid (∀ w', Only (fun _ => False) wc w' → Only (fun _ => False) w w') := Lib.hid (fun w' ho => (HO3.out.then ho (fun q _ f => f.elim)).mono (fun q hq s => by have := HP.out; omega))
  clear hcut h1 h2 h3 HJ2 HO2 HO3 HRJ
  go_wp2_with fail
  refine (len_any p op _ _ _ m wc HJF.out.jc).mono ?_
  rintro _ _ ⟨rfl, rfl⟩
  have HAH := Lib.hid (at_miss_hi p op _ m nn C L (L.length : Int) (Int.le_refl _) _ HJF.out)
  go_wp2_with fail
  refine HAH.out.mono ?_
  rintro _ y1 ⟨rfl, ho⟩
  have HY := Lib.hid ho
  have HAL := Lib.hid (at_miss_lo p op _ m nn C L (-1) (by omega) y1 (HJF.out.quiet ho))
  clear ho HAH
  go_wp2_with fail
  refine HAL.out.mono ?_
  rintro _ y2 ⟨rfl, ho⟩
  replace HY := Lib.hid (HY.out.trans ho)
  clear ho HAL
  have HLI : Hid (∀ w', Only (fun _ => False) _ w' → ∀ per, _) := Lib.hid (fun w' (ho : Only (fun _ => False) _ w') per => like_any p op _ m nn C L q vL vW D per w' (HJF.out.quiet ho) (HDF.out.quiet ho) HLF.out)
  go_wp2_with fail
  refine (HLI.out _ HY.out _).mono ?_
  rintro _ y3 ⟨rfl, ho⟩
  replace HY := Lib.hid (HY.out.trans ho)
  clear ho
  go_wp2_with fail
  refine (HLI.out _ HY.out _).mono ?_
  rintro _ y4 ⟨rfl, ho⟩
  replace HY := Lib.hid (HY.out.trans ho)
  clear ho
  go_wp2_with fail
  refine (HLI.out _ HY.out _).mono ?_
  rintro _ y5 ⟨rfl, ho⟩
  have HE := Lib.hid (HFIN.out _ (HY.out.trans ho))
  clear ho HLI HY
  go_wp2_with fail
  go_ret
  exact ⟨rfl, HE.out⟩
theorem jobs_below (a : Option Addr) (len cap : Nat) (per : Int) (w : World) (hrow : RowJ w a len) : Calls Try.prog 4 #[.slice a len cap, .int .i64 per] w fun e w' => e = .returned (.bool true) ∧ Below w.heap.size w w' := (jobs_walk a len cap per w hrow).mono (fun e w' h => ⟨h.1, h.2.none⟩)
end Go.Proofs.Ytdjiljkdnpmilaa.jnw

namespace Go.Proofs.Ytdjiljkdnpmilaa.journalJobs
open Go.ChangeShapes Go.WideShapes Go.ChangeAt Go.RowKit
set_option linter.unusedVariables false

theorem own : ownKnob Try.prog.godebug = none := by kernel_rfl
theorem laidOut : laidOutB Try.prog = true := by kernel_rfl

set_option maxRecDepth 100000 in
theorem lifted (os : Os) (started : os.Started) (H : Type) (enc : TypeId × Value → H) :
    ReturnsInHanded {} Try.checked os 4 .any (Rows.journalJobsSpec.pre6 enc Try.prog Try.f4 Rows.journalJobsRow.domain false) (Rows.journalJobsSpec.post enc Try.prog Try.f4 false true false false) := by
  refine returnsInHanded_of_change (C := Try.checked) own started (by kernel_rfl) Try.func4
    (ChangeSpec.witness6 (enc := enc) (C := Try.checked) false ⟨#[], #[.slice none 0 0, .int .i64 0], []⟩ 8 (by kernel_rfl) (by kernel_rfl) (by kernel_rfl) (by kernel_rfl)) ?_
  intro W base args ds gs before hval0 hW hcnd _
  have hval : ∀ (j : Nat) t v, Try.f4.params[j]? = some t → args[j]? = some v → Value.okWide Try.prog W .any base t v := hval0
  have hW' := hW
  obtain ⟨p, q, hA0, hV, rfl, hfz, hnd⟩ := hW
  have hA : DataW.TrodAll enc Try.prog W 0 (fun _ => true) true Try.f4.params.toList args.toList ds p := hA0
  rw [Try.params4] at hA hval
  obtain ⟨v0, vs0, d0, ds0, p0, q0, hargs, rfl, rfl, h0, r0⟩ := trodAll_cons hA
  obtain ⟨v1, vs1, d1, ds1, p1, q1, rfl, rfl, rfl, h1, r1⟩ := trodAll_cons r0
  obtain ⟨rfl, rfl, rfl⟩ := trodAll_nil r1
  obtain rfl : args = #[v0, v1] := by cases args; simp_all
  obtain ⟨rfl, rfl⟩ := trodVars_none hV
  obtain ⟨a0, len0, cap0, rfl⟩ := okWide_slice Try.underlying42 (hval 0 42 v0 rfl rfl)
  have k0 := h0
  have lt0 : ∀ x ∈ p0, x.block < W.heap.size := by obtain ⟨m, hm⟩ := k0; exact DataW.trod_lt m _ _ _ hm
  have w0 := Exists.elim h0 (fun _ hf => jnw.jobs_open hf)
  obtain ⟨a1, rfl, rfl, rfl, w1⟩ := open_int Try.underlying3 (hval 1 3 v1 rfl rfl) h1
  clear hA0 hval0
  refine Calls.mono (jnw.jobs_below a0 len0 cap0 _ W w0) fun e W' ⟨he, bel⟩ => ?_
  subst he
  exact ⟨_, rfl, _, _, _, [], _, [], hW', trodAll_mk1 (shut_bool Try.underlying4 _), (trodAll_cons_mk (Below.trod laidOut (by kernel_rfl) (of_decide_eq_true (by kernel_rfl)) k0 bel lt0) (trodAll_cons_mk (shut_int Try.underlying3 w1) trodAll_mk0)), rfl, bel.frame _, fun h => by cases h⟩

theorem over : Rows.journalJobsRow.holds Try.pinned (OpenSpec.ofChange Rows.journalJobsSpec) :=
  OpenClaim.holds_of_wide 4 Try.f4 rfl rfl rfl rfl rfl rfl rfl ⟨rfl, rfl, rfl, rfl, rfl⟩ rfl rfl rfl rfl rfl (by kernel_rfl) Try.func4 (by kernel_rfl)
    (of_decide_eq_true (by kernel_rfl)) (by unfold Func.isWrapper; first | (rw [if_pos (by decide +kernel)]; kernel_rfl) | (rw [if_neg (by decide +kernel)]; exact ⟨rfl, rfl⟩))
    (fun os started H enc _ => lifted os started H enc)

/-- THE STATEMENT -/
theorem proved : Rows.JournalJobsSaid := over
end Go.Proofs.Ytdjiljkdnpmilaa.journalJobs

