/- WindowBack: that a window comes back from its bytes, as mathematics; the walk. -/
import Derived.Test.YtpjbgcbjelcnbaaWnV
namespace Go.Proofs.Ytpjbgcbjelcnbaa.wnd
open Go.RowKit mem rowz dskw codm codp codw
set_option linter.unusedVariables false

theorem rdEnt_ent (x : Kp) (h : KOk x) (r : List Nat) : rdEnt (some (entB x ++ r)) = (x, some r) := by
  obtain ⟨k1, k2, k3, k4, k5, k6⟩ := h
  have e : entB x ++ r = enc x.n.toNat ++ (textB x.q ++ (textB x.a ++ r)) := by unfold entB; simp only [List.append_assoc]
  unfold rdEnt
  rw [e, uS_enc (by omega) (by omega)]
  dsimp only
  rw [tS_enc (by omega) (by omega)]
  dsimp only
  rw [tS_enc (by omega) (by omega)]
  dsimp only
  have hn : ((x.n.toNat : Nat) : Int) = x.n := by omega
  rw [hn]
theorem rdN_ents (K : List Kp) (hk : ∀ x ∈ K, KOk x) : ∀ k, k ≤ K.length → rdN k (some (K.flatMap entB)) = (K.take k, some ((K.drop k).flatMap entB)) := by
  intro k
  induction k with
  | zero => intro _; simp [rdN]
  | succ k ih =>
    intro h
    have ih := ih (by omega)
    have hd : K.drop k = K.getD k default :: K.drop (k + 1) := by rw [List.drop_eq_getElem_cons (by omega)]; simp [List.getD, show k < K.length by omega]
    have ht : K.take (k + 1) = K.take k ++ [K.getD k default] := by
      rw [List.take_succ_eq_append_getElem (by omega)]; simp [List.getD, show k < K.length by omega]
    have he := rdEnt_ent (K.getD k default) (getK_ok hk (by omega)) ((K.drop (k + 1)).flatMap entB)
    show ((rdN k (some (K.flatMap entB))).1 ++ [(rdEnt (rdN k (some (K.flatMap entB))).2).1], (rdEnt (rdN k (some (K.flatMap entB))).2).2) = _
    rw [ih]
    dsimp only
    rw [hd, List.flatMap_cons, he, ht]
theorem win_reads (m : Nat) (strict : Bool) (K : List Kp) (hm : 1 ≤ m ∧ m ≤ 64) (hl : K.length ≤ m) (hk : ∀ x ∈ K, KOk x) (hz : -1 ≤ lastK K ∧ lastK K ≤ 4611686018427387904) : wM (winB m strict K) = m ∧ wF (winB m strict K) = strict ∧ wZ (winB m strict K) = lastK K ∧ wK (winB m strict K) = K ∧ wS5 (winB m strict K) = some [] := by
  have e : winB m strict K = enc m ++ (flagB strict ++ (enc (zig (lastK K)) ++ (enc K.length ++ K.flatMap entB))) := by unfold winB headB; simp only [List.append_assoc]
  have h1 : uS 64 (some (winB m strict K)) = (m, some (flagB strict ++ (enc (zig (lastK K)) ++ (enc K.length ++ K.flatMap entB)))) := by rw [e]; exact uS_enc (by omega) (by omega) _
  have a1 : wM (winB m strict K) = m := by unfold wM; rw [h1]
  have s1 : wS1 (winB m strict K) = some (flagB strict ++ (enc (zig (lastK K)) ++ (enc K.length ++ K.flatMap entB))) := by unfold wS1; rw [h1]
  have a2 : wF (winB m strict K) = strict := by unfold wF; rw [s1, fS_enc]
  have s2 : wS2 (winB m strict K) = some (enc (zig (lastK K)) ++ (enc K.length ++ K.flatMap entB)) := by unfold wS2; rw [s1, fS_enc]
  have a3 : wZ (winB m strict K) = lastK K := by unfold wZ; rw [s2, iS_enc (by omega)]
  have s3 : wS3 (winB m strict K) = some (enc K.length ++ K.flatMap entB) := by unfold wS3; rw [s2, iS_enc (by omega)]
  have a4 : wC (winB m strict K) = K.length := by unfold wC; rw [s3, a1, uS_enc (by omega) (by omega)]
  have s4 : wS4 (winB m strict K) = some (K.flatMap entB) := by unfold wS4; rw [s3, a1, uS_enc (by omega) (by omega)]
  have hr := rdN_ents K hk K.length (Nat.le_refl _)
  refine ⟨a1, a2, a3, ?_, ?_⟩
  · unfold wK; rw [a4, s4, hr]; simp
  · unfold wS5; rw [a4, s4, hr]; simp
theorem folF_ris {strict : Bool} : ∀ (D : List Kp) (gone : Bool) (last : Int), Ris strict last D → folF strict gone last D = true := by
  intro D
  induction D with
  | nil => intro _ _ _; rfl
  | cons x r ih =>
    intro gone last h
    obtain ⟨h1, h2, h3⟩ := h
    show (if _ then _ else _) = _
    rw [if_neg]
    · exact ih false x.n h3
    · rintro (q | ⟨q1, q2, _⟩)
      · omega
      · exact q2 (h2 q1)
theorem Ris.above {strict : Bool} : ∀ (D : List Kp) (last : Int), Ris strict last D → ∀ x ∈ D, last < x.n := by
  intro D
  induction D with
  | nil => intro _ _ x hx; cases hx
  | cons y r ih =>
    intro last h x hx
    rcases List.mem_cons.1 hx with rfl | hx
    · exact h.1
    · have := ih y.n h.2.2 x hx; have := h.1; omega
theorem Ris.tail {strict : Bool} : ∀ (D : List Kp) (k : Nat) (last : Int) (y : Kp) (r : List Kp), Ris strict last D → D.drop k = y :: r → Ris strict y.n r := by
  intro D
  induction D with
  | nil => intro k _ _ _ _ h; simp at h
  | cons x t ih =>
    intro k last y r h hd
    cases k with
    | zero => injection hd with h1 h2; subst h1 h2; exact h.2.2
    | succ k => exact ih k x.n y r h.2.2 hd
theorem folP_kept {strict : Bool} {m : Nat} {D : List Kp} (hm : 1 ≤ m) (h : Ris strict (-1) D) : folP strict m (keptD m D) = true := by
  unfold folP
  by_cases hl : D.length ≤ m
  · have : keptD m D = D := by unfold keptD; rw [Nat.sub_eq_zero_of_le hl]; rfl
    rw [this]
    exact folF_ris D _ _ h
  · have hkl : (keptD m D).length = m := by rw [keptD_len]; omega
    rw [decide_eq_true hkl]
    cases hk : keptD m D with
    | nil => rfl
    | cons y r =>
      have hy : -1 < y.n := h.above _ _ y (keptD_mem (m := m) (by rw [hk]; exact List.mem_cons_self))
      show (if _ then _ else _) = _
      rw [if_neg (by rintro (q | ⟨_, _, q⟩); omega; cases q)]
      exact folF_ris r false y.n (Ris.tail D _ _ y r h hk)
theorem ok_back {strict : Bool} {m : Nat} {D : List Kp} (hm : 1 ≤ m ∧ m ≤ 64) (hk : ∀ x ∈ D, KOk x) (h : Ris strict (-1) D) : okW (winB m strict (keptD m D)) ∧ wM (winB m strict (keptD m D)) = m ∧ wF (winB m strict (keptD m D)) = strict ∧ wK (winB m strict (keptD m D)) = keptD m D := by
  have hz : -1 ≤ lastK (keptD m D) ∧ lastK (keptD m D) ≤ 4611686018427387904 := by
    rw [keptD_last m D hm.1]
    unfold lastK
    by_cases h0 : D.length = 0
    · rw [if_pos h0]; omega
    · rw [if_neg h0]
      have := (getK_ok hk (k := D.length - 1) (by omega)).2.2.2.2
      omega
  obtain ⟨a1, a2, a3, a4, a5⟩ := win_reads m strict (keptD m D) hm (by rw [keptD_len]; omega) (keptD_ok hk) hz
  refine ⟨⟨by rw [a1]; exact hm.1, a5, by rw [a3, a4], by rw [a1, a2, a4]; exact folP_kept hm.1 h⟩, a1, a2, a4⟩
theorem win_by {strict : Bool} {m : Nat} {K : List Kp} (hm : m < 18446744073709551616) (hl : K.length ≤ 64) (hk : ∀ x ∈ K, KOk x) (hz : -1 ≤ lastK K ∧ lastK K ≤ 4611686018427387904) : By (winB m strict K) := by
  refine ⟨fun c hc => ?_, ?_⟩
  · unfold winB headB at hc
    simp only [List.mem_append, List.mem_flatMap] at hc
    rcases hc with ((hc | hc | hc | hc) | ⟨x, hx, hc⟩)
    · exact enc_lt hm c hc
    · cases strict <;> simp [flagB] at hc <;> omega
    · exact enc_lt (zig_lt (by omega)) c hc
    · exact enc_lt (by omega) c hc
    · obtain ⟨k1, k2, k3, k4, k5, k6⟩ := hk x hx
      unfold entB textB at hc
      simp only [List.mem_append] at hc
      rcases hc with hc | (hc | hc) | (hc | hc)
      · exact enc_lt (by omega) c hc
      · exact enc_lt (by omega) c hc
      · exact k1 c hc
      · exact enc_lt (by omega) c hc
      · exact k2 c hc
  · unfold winB
    rw [List.length_append]
    have h1 := headB_len m strict (lastK K) K.length
    have h2 := ents_len K hk
    have h3 : K.length * 131105 ≤ 64 * 131105 := Nat.mul_le_mul_right _ hl
    omega
set_option maxRecDepth 100000 in
set_option maxHeartbeats 8000000 in
theorem wback_any (s0 s1 : Int) (a1 : Option Addr) (l1 c1 : Nat) (a2 : Option Addr) (l2 c2 : Nat) (wo : World) (h1 : RowW wo a1 l1) (h2 : RowW wo a2 l2) :
    Calls Try.prog 7 #[.agg #[.int .i64 s0, .int .i64 s1], .slice a1 l1 c1, .slice a2 l2 c2] wo fun e w' => e = .returned (.bool true) ∧ Only (fun _ => False) wo w' := by
  have hm1 := h1.1
  have hm2 := h2.1
  unfold maxLen at hm1 hm2
  have H1 := Lib.hid h1
  have H2 := Lib.hid h2
  clear h1 h2
  obtain ⟨wa, hwa⟩ : ∃ x, x = wo.alloc (.cells #[.int .i64 s0, .int .i64 s1] 78) := ⟨_, rfl⟩
  obtain ⟨g, hg⟩ : ∃ x, x = wo.heap.size := ⟨_, rfl⟩
  have e0 : wa.cell? ⟨g, 0, none⟩ = some (.int .i64 s0) := by
    rw [hwa, hg, Go.Joins.cell_of_block (cs := #[.int .i64 s0, .int .i64 s1]) (t := 78) (fr := (0, 0)) (by rw [heap_alloc, if_pos rfl])]; rfl
  have e1 : wa.cell? ⟨g, 1, none⟩ = some (.int .i64 s1) := by
    rw [hwa, hg, Go.Joins.cell_of_block (cs := #[.int .i64 s0, .int .i64 s1]) (t := 78) (fr := (0, 0)) (by rw [heap_alloc, if_pos rfl])]; rfl
  have HOA : Hid (Only (fun _ => False) wo wa) := Lib.hid (by rw [hwa]; exact (Only.refl _ _).alloc _)
  have hz := tmod_in s0 9 (by decide) (by decide)
  generalize hzz : wrap64 ((IntKind.u64.wrap s0).tmod 9) = z at hz
  obtain ⟨hz0, hz1⟩ := hz
  obtain ⟨m, hm⟩ : ∃ m : Nat, 1 + z = (m : Int) := ⟨(1 + z).toNat, by omega⟩
  have HMO : Hid (1 ≤ m ∧ m ≤ 64) := Lib.hid ⟨by omega, by omega⟩
  have hw1z : IntKind.i64.wrap (m : Int) = (m : Int) := by rw [IntKind.wrap_i64]; omega
  go_enter Try.func7, Try.ntmps7
  go_upto_region 1 with fail
  simp only [← hwa, ← hg]
  clear hwa hg
  refine wp_region_noPanic ?_
  refine late.region (fun w' => ∀ q, w'.cell? q = wa.cell? q) (fun j => [].contains j) (by kernel_rfl) (fun q => by simp) (fun hHeld => ?_)
  refine late.take (i := 0) [1, 2, 3, 4, 5, 10, 11] (v := ?_) rfl (by kernel_rfl) (by kernel_rfl) (by kernel_rfl) (by kernel_rfl) (fun _ _ _ h => h) (Or.inl ⟨by rfl, ?_⟩) (by assumption) ?_
  rotate_left 1
  · intro w' hSw
    try dsimp only at hSw
    go_simp
    try with_reducible rfl
  try simp only [List.getElem_toArray, List.getElem_cons_zero, Act.put, List.setIfInBounds_toArray, List.set_cons_zero, List.set_cons_succ]
  refine late.take (i := 1) [2, 3, 4, 5, 10, 11] (v := ?_) rfl (by kernel_rfl) (by kernel_rfl) (by kernel_rfl) (by kernel_rfl) (fun _ _ _ h => h) (Or.inl ⟨by rfl, ?_⟩) (by assumption) ?_
  rotate_left 1
  · intro w' hSw
    try dsimp only at hSw
    go_simp
    try with_reducible rfl
  try simp only [List.getElem_toArray, List.getElem_cons_zero, List.getElem_cons_succ, Act.put, List.setIfInBounds_toArray, List.set_cons_zero, List.set_cons_succ]
  refine late.take (i := 2) [3, 4, 5, 10, 11] (v := ?_) rfl (by kernel_rfl) (by kernel_rfl) (by kernel_rfl) (by kernel_rfl) (fun _ _ _ h => h) (Or.inl ⟨by rfl, ?_⟩) (by assumption) ?_
  rotate_left 1
  · intro w' hSw
    try dsimp only at hSw
    go_simp
    try with_reducible rfl
  try simp only [List.getElem_toArray, List.getElem_cons_zero, List.getElem_cons_succ, Act.put, List.setIfInBounds_toArray, List.set_cons_zero, List.set_cons_succ]
  refine late.take (i := 3) [4, 5, 10, 11] (v := ?_) rfl (by kernel_rfl) (by kernel_rfl) (by kernel_rfl) (by kernel_rfl) (fun _ _ _ h => h) (Or.inl ⟨by rfl, ?_⟩) (by assumption) ?_
  rotate_left 1
  · intro w' hSw
    try dsimp only at hSw
    go_simp
    try with_reducible rfl
  try simp only [List.getElem_toArray, List.getElem_cons_zero, List.getElem_cons_succ, Act.put, List.setIfInBounds_toArray, List.set_cons_zero, List.set_cons_succ]
  refine late.take (i := 4) [5, 10, 11] (v := ?_) rfl (by kernel_rfl) (by kernel_rfl) (by kernel_rfl) (by kernel_rfl) (fun _ _ _ h => h) (Or.inl ⟨by rfl, ?_⟩) (by assumption) ?_
  rotate_left 1
  · intro w' hSw
    try dsimp only at hSw
    go_simp
    try with_reducible rfl
  try simp only [List.getElem_toArray, List.getElem_cons_zero, List.getElem_cons_succ, Act.put, List.setIfInBounds_toArray, List.set_cons_zero, List.set_cons_succ]
  refine late.take (i := 5) [10, 11] (v := ?_) rfl (by kernel_rfl) (by kernel_rfl) (by kernel_rfl) (by kernel_rfl) (fun _ _ _ h => h) (Or.inl ⟨by rfl, ?_⟩) (by assumption) ?_
  rotate_left 1
  · intro w' hSw
    try dsimp only at hSw
    go_simp
    try with_reducible rfl
  try simp only [List.getElem_toArray, List.getElem_cons_zero, List.getElem_cons_succ, Act.put, List.setIfInBounds_toArray, List.set_cons_zero, List.set_cons_succ]
  refine late.take (i := 6) [7, 8, 9, 11] (v := ?_) rfl (by kernel_rfl) (by kernel_rfl) (by kernel_rfl) (by kernel_rfl) (fun _ _ _ h => h) (Or.inl ⟨by rfl, ?_⟩) (by assumption) ?_
  rotate_left 1
  · intro w' hSw
    try dsimp only at hSw
    go_simp
    try with_reducible rfl
  try simp only [List.getElem_toArray, List.getElem_cons_zero, List.getElem_cons_succ, Act.put, List.setIfInBounds_toArray, List.set_cons_zero, List.set_cons_succ]
  refine late.take (i := 7) [8, 9, 11] (v := ?_) rfl (by kernel_rfl) (by kernel_rfl) (by kernel_rfl) (by kernel_rfl) (fun _ _ _ h => h) (Or.inl ⟨by rfl, ?_⟩) (by assumption) ?_
  rotate_left 1
  · intro w' hSw
    try dsimp only at hSw
    go_simp
    try with_reducible rfl
  try simp only [List.getElem_toArray, List.getElem_cons_zero, List.getElem_cons_succ, Act.put, List.setIfInBounds_toArray, List.set_cons_zero, List.set_cons_succ]
  refine late.take (i := 8) [9, 11] (v := ?_) rfl (by kernel_rfl) (by kernel_rfl) (by kernel_rfl) (by kernel_rfl) (fun _ _ _ h => h) (Or.inl ⟨by rfl, ?_⟩) (by assumption) ?_
  rotate_left 1
  · intro w' hSw
    try dsimp only at hSw
    go_simp
    try with_reducible rfl
  try simp only [List.getElem_toArray, List.getElem_cons_zero, List.getElem_cons_succ, Act.put, List.setIfInBounds_toArray, List.set_cons_zero, List.set_cons_succ]
  refine late.take (i := 9) [11] (v := ?_) rfl (by kernel_rfl) (by kernel_rfl) (by kernel_rfl) (by kernel_rfl) (fun _ _ _ h => h) (Or.inl ⟨by rfl, ?_⟩) (by assumption) ?_
  rotate_left 1
  · intro w' hSw
    try dsimp only at hSw
    go_simp
    try with_reducible rfl
  try simp only [List.getElem_toArray, List.getElem_cons_zero, List.getElem_cons_succ, Act.put, List.setIfInBounds_toArray, List.set_cons_zero, List.set_cons_succ]
  refine late.take (i := 10) [11] (v := ?_) rfl (by kernel_rfl) (by kernel_rfl) (by kernel_rfl) (by kernel_rfl) (fun _ _ _ h => h) (Or.inl ⟨by rfl, ?_⟩) (by assumption) ?_
  rotate_left 1
  · intro w' hSw
    try dsimp only at hSw
    go_simp
    try with_reducible rfl
  try simp only [List.getElem_toArray, List.getElem_cons_zero, List.getElem_cons_succ, Act.put, List.setIfInBounds_toArray, List.set_cons_zero, List.set_cons_succ]
  refine late.take (i := 11) [] (v := ?_) rfl (by kernel_rfl) (by kernel_rfl) (by kernel_rfl) (by kernel_rfl) (fun _ _ _ h => h) (Or.inl ⟨by rfl, ?_⟩) (by assumption) ?_
  rotate_left 1
  · intro w' hSw
    try dsimp only at hSw
    go_simp
    try with_reducible rfl
  try simp only [List.getElem_toArray, List.getElem_cons_zero, List.getElem_cons_succ, Act.put, List.setIfInBounds_toArray, List.set_cons_zero, List.set_cons_succ]
  refine late.done (by kernel_rfl) ?_ _
  refine NoPanic.normal ?_
  have hM : IntKind.i64.wrap (1 + IntKind.i64.wrap ((IntKind.u64.wrap s0).tmod 9)) = (m : Int) := by rw [show IntKind.i64.wrap ((IntKind.u64.wrap s0).tmod 9) = z by rw [← hzz, IntKind.wrap_i64, wrap64_eq], hm, hw1z]
  rw [hM]
  generalize (s1.tmod 2 == 0) = st at *
  obtain ⟨wi, hwi⟩ : ∃ x, x = wa.drew := ⟨_, rfl⟩
  rw [← hwi]
  have HOI : Hid (Only (fun _ => False) wo wi) := Lib.hid (HOA.out.trans (by rw [hwi]; exact (Only.refl _ _).drew))
  clear hM hwi hHeld e0 e1 HOA hzz hz0 hz1 hm hw1z
  have hm2' : (1 : Int) ≤ m := by have := HMO.out; omega
  have hm3' : (m : Int) ≤ 64 := by have := HMO.out; omega
  obtain ⟨w, hw⟩ : ∃ x, x = wi := ⟨_, rfl⟩
  rw [← hw] at HOI ⊢
  clear hw
  go_wp2_with fail
  refine (wb_new (m : Int) st w hm2' hm3').mono ?_
  rintro _ w1 ⟨rfl, hwb, ho⟩
  obtain ⟨p, hp⟩ : ∃ x, x = w.heap.size := ⟨_, rfl⟩
  obtain ⟨r, hr⟩ : ∃ x, x = w1.heap.size := ⟨_, rfl⟩
  obtain ⟨w2, hw2⟩ : ∃ x, x = w1.alloc (.cells #[.int .i64 (m : Int), .bool st, .slice none 0 0] 72) := ⟨_, rfl⟩
  have HB0 := Lib.hid (fw_new hwb ho HMO.out hw2 hp hr)
  have HP := Lib.hid hp
  have HOO : Hid (Only (fun q => p ≤ q) w w2) := Lib.hid (by rw [hw2]; exact (ho.mono (fun _ _ f => f.elim)).alloc _)
  have HA1 := Lib.hid (H1.out.keep (b := wo.heap.size) (Nat.le_refl _) (HOI.out.mono (fun _ _ f => f.elim)))
  have HA2 := Lib.hid (H2.out.keep (b := wo.heap.size) (Nat.le_refl _) (HOI.out.mono (fun _ _ f => f.elim)))
  have HEND : Hid (∀ w', Only (fun x => p ≤ x) w w' → Only (fun _ => False) wo w') := Lib.hid (fun w' ho => HOI.out.then ho (fun q hq e => by have := HP.out; have := HOI.out.size; omega))
  clear hwb ho H1 H2 HOI hm2' hm3'
  go_upto_region 4 with fail
  simp only [← hp, ← hr, ← hw2]
  clear hp hr hw2
  go_wp2_with fail
  refine (windows_any _).mono ?_
  rintro _ w3 ⟨rfl, ho⟩
  have HB3 := Lib.hid (HB0.out.quiet ho)
  have HO3 : Hid (Only (fun q => p ≤ q) w w3) := Lib.hid (HOO.out.trans (ho.mono (fun _ _ f => f.elim)))
  clear ho HB0 HOO
  go_upto_block 0 with fail
  go_cut [12] from 44 to 61 (fun iv wx => ∃ (D : List Kp), Hid (D.length ≤ 60) ∧ Hid (Ris st (-1) D) ∧ Hid (FW p wx p r m st D) ∧ Hid (Only (fun x => p ≤ x) w wx))
  case first =>
    go_wp2_with fail
    go_loopw [12] (fun iv wr => ∃ (k : Nat) (D : List Kp), k ≤ 60 ∧ iv = .int .i64 (k : Int) ∧ Hid (D.length ≤ k) ∧ Hid (Ris st (-1) D) ∧ Hid (FW p wr p r m st D) ∧ Hid (Only (fun x => p ≤ x) w wr)) (fun iv _ => 60 - (intOf iv).toNat)
    case atStart => exact ⟨0, [], by omega, rfl, Lib.hid (by simp), Lib.hid trivial, HB3, HO3⟩
    case round =>
      obtain ⟨k, D, hk, rfl, HDL, HRI, HB, HO⟩ := hrel
      rename World => wr
      by_cases h8 : k < l1
      · by_cases h20 : k < 60
        · obtain ⟨b', off, rfl, hcell⟩ := HA1.out.2.resolve_left (by omega)
          obtain ⟨d, hd, hin⟩ := hcell k h8
          have HIN := Lib.hid (hin.keep (Nat.le_of_eq HP.out.symm) HO.out)
          replace hd := hd.keep (Nat.le_of_eq HP.out.symm) HO.out
          have HDO := Lib.hid (do_any p p r m st D d wr HB.out HIN.out (by have := HDL.out; omega) (by have := HO.out.size; have := HP.out; omega))
          obtain ⟨keep, by_, raw, qa, qn, qc, ql, aa, an, ac, al⟩ := d
          obtain ⟨d0, d1, d2, d3, d4⟩ := hd
          unfold AcD.v at HDO
          dsimp only at d0 d1 d2 d3 d4 HDO
          clear hcell hin HIN
          have hk1 : (k : Int) < l1 := by omega
          have hk2 : (k : Int) < 60 := by omega
          have hk0 : (0 : Int) ≤ k := by omega
          go_wp2_with fail
          refine HDO.out.mono ?_
          rintro _ w5 ⟨rfl, ⟨D', hl', hb, hri⟩, ho⟩
          have HB5 := Lib.hid hb
          have HL5 : Hid (D'.length ≤ k + 1) := Lib.hid (by have := HDL.out; omega)
          have HO5 : Hid (Only (fun x => p ≤ x) w w5) := Lib.hid (HO.out.trans ho)
          have HRI5 := Lib.hid (hri HRI.out)
          clear hb ho d0 d1 d2 d3 d4 HDO HB HO hl' HDL hri HRI
          go_wp2_with fail
          go_roundw
          case rel => exact ⟨k + 1, D', by omega, by go_num, HL5, HRI5, HB5, HO5⟩
          case measure => simp [intOf]; omega
        · have hk2 : ¬ (k : Int) < 60 := by omega
          have HDL9 : Hid (D.length ≤ 60) := Lib.hid (by have := HDL.out; omega)
          go_wp2_with fail
          go_meet
          exact ⟨D, HDL9, HRI, HB, HO⟩
      · have hk2 : ¬ (k : Int) < l1 := by omega
        have HDL9 : Hid (D.length ≤ 60) := Lib.hid (by have := HDL.out; omega)
        go_wp2_with fail
        go_meet
        exact ⟨D, HDL9, HRI, HB, HO⟩
  case rest =>
    obtain ⟨D, HDL, HRI, HB, HO⟩ := hcut
    rename World => w4
    clear HB3 HO3
    have HWR : Hid (Calls Try.prog 29 #[.pointer (some ⟨p, 0, none⟩)] w4 (Wrote w4 (winB m st (keptD m D)))) := Lib.hid (by
      obtain ⟨dv, e1, ⟨v, L, eL, hL⟩, -⟩ := HB.out
      have := wwrite_any p m st v L w4 hL
      rwa [eL] at this)
    have HOKB : Hid (okW (winB m st (keptD m D)) ∧ wM (winB m st (keptD m D)) = m ∧ wF (winB m st (keptD m D)) = st ∧ wK (winB m st (keptD m D)) = keptD m D) := Lib.hid (by
      obtain ⟨dv, e1, -⟩ := HB.out
      exact ok_back HMO.out e1.ok HRI.out)
    have HBY : Hid (By (winB m st (keptD m D))) := Lib.hid (by
      obtain ⟨dv, e1, -⟩ := HB.out
      have hz : -1 ≤ lastK (keptD m D) ∧ lastK (keptD m D) ≤ 4611686018427387904 := by
        rw [keptD_last m D HMO.out.1]
        unfold lastK
        by_cases h0 : D.length = 0
        · rw [if_pos h0]; omega
        · rw [if_neg h0]
          have := (getK_ok e1.ok (k := D.length - 1) (by omega)).2.2.2.2
          omega
      exact win_by (by have := HMO.out; omega) (by rw [keptD_len]; have := HMO.out; omega) (keptD_ok e1.ok) hz)
    have HRW0 : Hid (∀ w', Only (fun _ => False) w4 w' → Calls Try.prog 39 #[.pointer (some ⟨r, 0, none⟩)] w' fun e w'' => e = .returned (.string (dskw.strN (winB m st (keptD m D)))) ∧ Only (fun _ => False) w' w'') := Lib.hid (fun w' ho => by
      obtain ⟨dv, e1, -⟩ := HB.out
      exact rwrite_any r m st dv D w' (e1.quiet ho))
    generalize hbb : winB m st (keptD m D) = b at *
    clear hbb
    obtain ⟨nb, hnb⟩ : ∃ x, b.length = x := ⟨_, rfl⟩
    go_wp2_with fail
    refine HWR.out.mono ?_
    rintro _ w5 ⟨ra, rc, rfl, hby, hyb, ho⟩
    rw [hnb] at hby ⊢
    have HO5 := Lib.hid ho
    have HRB := Lib.hid hby
    have HB5 := Lib.hid (HB.out.quiet ho)
    have HRD := Lib.hid (wread_any ra nb rc b w5 hby HBY.out)
    clear ho hby hyb HWR HB hnb
    go_wp2_with fail
    refine HRD.out.mono ?_
    rintro _ wb ⟨ho, hres⟩
    rcases hres with ⟨-, p2, rfl, hws, hp2⟩ | ⟨hno, -⟩
    · obtain ⟨-, hm9, hf9, hk9⟩ := HOKB.out
      rw [hm9, hf9, hk9] at hws
      have HB6 : Hid (FW p wb p2 r m st D) := Lib.hid (by
        obtain ⟨dv, e1, e2, e3, e4⟩ := HB5.out
        refine ⟨dv, e1.quiet ho, ?_, e3, e4⟩
        have hrl := e1.lt
        have hdl : ∀ q, dv.ownBlock = some q → q < w5.heap.size := fun q e => e1.own.lt e
        have hps : p ≤ w5.heap.size := by omega
        exact hws.mono (fun q _ s => ⟨by omega, by omega, fun e => by have := hdl q e; omega⟩))
      have HO6 : Hid (Only (fun x => p ≤ x) w wb) := Lib.hid (HO.out.trans ((HO5.out.trans ho).mono (fun _ _ f => f.elim)))
      have HSL : Hid (∀ w', Only (fun _ => False) wb w' → Reads w' ra nb b) := Lib.hid (fun w' h => (HRB.out.1.only (ho.trans h) (fun _ _ f => f)))
      have HRW : Hid (∀ w', Only (fun _ => False) wb w' → _) := Lib.hid (fun w' (h : Only (fun _ => False) wb w') => HRW0.out w' ((HO5.out.trans ho).trans h))
      have hcv : ∀ w', Reads w' ra nb b → (convert 31 9 (.slice ra nb rc)).run Try.prog w' = .ok (.string (dskw.strN b)) w' := fun w' h => dskw.conv_reads h rc
      have hself : ((dskw.strN b).toList != (dskw.strN b).toList) = false := by simp
      clear ho hws HOKB HRW0 HB5 HO5 HRB HRD hm9 hf9 hk9
      go_upto_region 13 with fail
      refine wp_region_noPanic ?_
      refine late.region (fun w' => Reads w' ra nb b) (fun j => [].contains j) (by kernel_rfl) (HSL.out _ (Only.refl _ _).drew) (fun hHeld => ?_)
      obtain ⟨z0, hz0⟩ : ∃ x, x = wb.drew := ⟨_, rfl⟩
      rw [← hz0] at hHeld ⊢
      have hot : Hid (Only (fun _ => False) wb z0) := Lib.hid (by rw [hz0]; exact (Only.refl _ _).drew)
      clear hz0
      refine late.take (i := 0) [1, 2, 3, 4, 5, 6, 7, 8, 9, 10, 11, 12] (v := ?_) rfl (by kernel_rfl) (by kernel_rfl) (by kernel_rfl) (by kernel_rfl) (fun _ _ _ h => h) (Or.inl ⟨by rfl, ?_⟩) (by assumption) ?_
      rotate_left 1
      · intro w' hSw
        try dsimp only at hSw
        go_simp
        try with_reducible rfl
      try simp only [List.getElem_toArray, List.getElem_cons_zero, Act.put, List.setIfInBounds_toArray, List.set_cons_zero, List.set_cons_succ]
      refine late.take (i := 1) [2, 3, 4, 5, 6, 7, 8, 9, 10, 11, 12] (v := ?_) rfl (by kernel_rfl) (by kernel_rfl) (by kernel_rfl) (by kernel_rfl) (fun _ _ _ h => h) (Or.inl ⟨by rfl, ?_⟩) (by assumption) ?_
      rotate_left 1
      · intro w' hSw
        try dsimp only at hSw
        go_simp
        try with_reducible rfl
      try simp only [List.getElem_toArray, List.getElem_cons_zero, List.getElem_cons_succ, Act.put, List.setIfInBounds_toArray, List.set_cons_zero, List.set_cons_succ]
      refine late.take (i := 2) [3, 4, 5, 6, 7, 8, 9, 10, 11, 12] (v := ?_) rfl (by kernel_rfl) (by kernel_rfl) (by kernel_rfl) (by kernel_rfl) (fun _ _ _ h => h) (Or.inl ⟨by rfl, ?_⟩) (by assumption) ?_
      rotate_left 1
      · intro w' hSw
        try dsimp only at hSw
        go_simp
        try with_reducible rfl
      try simp only [List.getElem_toArray, List.getElem_cons_zero, List.getElem_cons_succ, Act.put, List.setIfInBounds_toArray, List.set_cons_zero, List.set_cons_succ]
      refine late.take (i := 3) [4, 5, 6, 7, 8, 9, 10, 11, 12] (v := ?_) rfl (by kernel_rfl) (by kernel_rfl) (by kernel_rfl) (by kernel_rfl) (fun _ _ _ h => h) (Or.inl ⟨by rfl, ?_⟩) (by assumption) ?_
      rotate_left 1
      · intro w' hSw
        try dsimp only at hSw
        go_simp
        try with_reducible rfl
      try simp only [List.getElem_toArray, List.getElem_cons_zero, List.getElem_cons_succ, Act.put, List.setIfInBounds_toArray, List.set_cons_zero, List.set_cons_succ]
      refine late.take (i := 4) [5, 6, 7, 8, 9, 10, 11, 12] (v := ?_) rfl (by kernel_rfl) (by kernel_rfl) (by kernel_rfl) (by kernel_rfl) (fun _ _ _ h => h) (Or.inl ⟨by rfl, ?_⟩) (by assumption) ?_
      rotate_left 1
      · intro w' hSw
        try dsimp only at hSw
        go_simp
        try with_reducible rfl
      try simp only [List.getElem_toArray, List.getElem_cons_zero, List.getElem_cons_succ, Act.put, List.setIfInBounds_toArray, List.set_cons_zero, List.set_cons_succ]
      refine late.take (i := 5) [6, 7, 8, 9, 10, 11, 12] (v := ?_) rfl (by kernel_rfl) (by kernel_rfl) (by kernel_rfl) (by kernel_rfl) (fun _ _ _ h => h) (Or.inl ⟨by rfl, ?_⟩) (by assumption) ?_
      rotate_left 1
      · intro w' hSw
        try dsimp only at hSw
        go_simp
        try with_reducible rfl
      try simp only [List.getElem_toArray, List.getElem_cons_zero, List.getElem_cons_succ, Act.put, List.setIfInBounds_toArray, List.set_cons_zero, List.set_cons_succ]
      refine late.take (i := 6) [7, 8, 9, 10, 11, 12] (v := ?_) rfl (by kernel_rfl) (by kernel_rfl) (by kernel_rfl) (by kernel_rfl) (fun _ _ _ h => h) (Or.inl ⟨by rfl, ?_⟩) (by assumption) ?_
      rotate_left 1
      · intro w' hSw
        try dsimp only at hSw
        go_simp
        try with_reducible rfl
      try simp only [List.getElem_toArray, List.getElem_cons_zero, List.getElem_cons_succ, Act.put, List.setIfInBounds_toArray, List.set_cons_zero, List.set_cons_succ]
      refine late.take (i := 7) [8, 11, 12] (v := ?_) rfl (by kernel_rfl) (by kernel_rfl) (by kernel_rfl) (by kernel_rfl) (fun _ _ _ h => h) (Or.inl ⟨by rfl, ?_⟩) (by assumption) ?_
      rotate_left 1
      · intro w' hSw
        try dsimp only at hSw
        go_simp
        try with_reducible rfl
      try simp only [List.getElem_toArray, List.getElem_cons_zero, List.getElem_cons_succ, Act.put, List.setIfInBounds_toArray, List.set_cons_zero, List.set_cons_succ]
      refine late.take (i := 8) [11, 12] (v := ?_) rfl (by kernel_rfl) (by kernel_rfl) (by kernel_rfl) (by kernel_rfl) (fun _ _ _ h => h) (Or.inl ⟨by rfl, ?_⟩) (by assumption) ?_
      rotate_left 1
      · intro w' hSw
        try dsimp only at hSw
        go_simp
        try with_reducible rfl
      try simp only [List.getElem_toArray, List.getElem_cons_zero, List.getElem_cons_succ, Act.put, List.setIfInBounds_toArray, List.set_cons_zero, List.set_cons_succ]
      refine late.take (i := 9) [10, 11, 12] (v := ?_) rfl (by kernel_rfl) (by kernel_rfl) (by kernel_rfl) (by kernel_rfl) (fun _ _ _ h => h) (Or.inl ⟨by rfl, ?_⟩) (by assumption) ?_
      rotate_left 1
      · intro w' hSw
        try dsimp only at hSw
        go_simp
        try with_reducible rfl
      try simp only [List.getElem_toArray, List.getElem_cons_zero, List.getElem_cons_succ, Act.put, List.setIfInBounds_toArray, List.set_cons_zero, List.set_cons_succ]
      refine late.ready (rs := [10]) (by kernel_rfl) (by simp) ?_
      refine late.Each.cons rfl (fun K hK => ?_) late.Each.nil
      try simp only [List.getElem_toArray, List.getElem_cons_zero, List.getElem_cons_succ]
      go_simp
      go_at_call 39
      with_reducible refine (HRW.out _ hot.out).mono ?_
      rintro _ W1 ⟨rfl, ho⟩
      replace hot := Lib.hid (hot.out.trans ho)
      clear ho
      try dsimp only
      refine hK.out _ _ (fun _ => HSL.out _ hot.out) (fun hHeld1 => ?_)
      replace hHeld1 := hHeld1 rfl
      clear hK K
      try simp only [List.getElem_toArray, List.getElem_cons_zero, List.getElem_cons_succ, Act.put, List.setIfInBounds_toArray, List.set_cons_zero, List.set_cons_succ]
      refine late.take (i := 11) [12] (v := ?_) rfl (by kernel_rfl) (by kernel_rfl) (by kernel_rfl) (by kernel_rfl) (fun _ _ _ h => h) (Or.inl ⟨by rfl, ?_⟩) (by assumption) ?_
      rotate_left 1
      · intro w' hSw
        try dsimp only at hSw
        go_simp
        try with_reducible rfl
      try simp only [List.getElem_toArray, List.getElem_cons_zero, List.getElem_cons_succ, Act.put, List.setIfInBounds_toArray, List.set_cons_zero, List.set_cons_succ]
      refine late.take (i := 12) [] (v := ?_) rfl (by kernel_rfl) (by kernel_rfl) (by kernel_rfl) (by kernel_rfl) (fun _ _ _ h => h) (Or.inl ⟨by rfl, ?_⟩) (by assumption) ?_
      rotate_left 1
      · intro w' hSw
        try dsimp only at hSw
        go_simp
        try with_reducible rfl
      try simp only [List.getElem_toArray, List.getElem_cons_zero, List.getElem_cons_succ, Act.put, List.setIfInBounds_toArray, List.set_cons_zero, List.set_cons_succ]
      refine late.done (by kernel_rfl) ?_ _
      refine NoPanic.normal ?_
      have HB7 := Lib.hid (HB6.out.quiet hot.out)
      have HO7 : Hid (Only (fun x => p ≤ x) w W1) := Lib.hid (HO6.out.trans (hot.out.mono (fun _ _ f => f.elim)))
      clear hHeld hot hcv hself HSL HRW HB6 HO6 HBY
      rename World => w7
      go_wp2_with fail
      go_loopw [17] (fun iv wr => ∃ (k : Nat) (D : List Kp), k ≤ 60 ∧ iv = .int .i64 (k : Int) ∧ Hid (D.length ≤ k + 60) ∧ Hid (Ris st (-1) D) ∧ Hid (FW p wr p2 r m st D) ∧ Hid (Only (fun x => p ≤ x) w wr)) (fun iv _ => 60 - (intOf iv).toNat)
      case atStart => exact ⟨0, D, by omega, rfl, Lib.hid (by have := HDL.out; omega), HRI, HB7, HO7⟩
      case round =>
        clear HB7 HO7 HRI HDL
        obtain ⟨k, D, hk, rfl, HDL, HRI, HB, HO⟩ := hrel
        rename World => wr
        have HFIN : Hid (Calls Try.prog 32 #[.pointer (some ⟨p2, 0, none⟩)] wr (fun e w' => e = .returned (.int .i64 (lastK D)) ∧ Only (fun _ => False) wr w') ∧ ∀ w', Only (fun _ => False) wr w' → Calls Try.prog 36 #[.pointer (some ⟨r, 0, none⟩)] w' fun e w'' => e = .returned (.int .i64 (lastK D)) ∧ Only (fun _ => False) w' w'') := Lib.hid (by
          obtain ⟨dv, e1, e2, -⟩ := HB.out
          refine ⟨?_, fun w' ho => rlast_any r m st dv D w' (e1.quiet ho)⟩
          have := ws_last e2
          rwa [keptD_last m D HMO.out.1] at this)
        by_cases h8 : k < l2
        · by_cases h20 : k < 60
          · clear HFIN
            obtain ⟨b', off, rfl, hcell⟩ := HA2.out.2.resolve_left (by omega)
            obtain ⟨d, hd, hin⟩ := hcell k h8
            have HIN := Lib.hid (hin.keep (Nat.le_of_eq HP.out.symm) HO.out)
            replace hd := hd.keep (Nat.le_of_eq HP.out.symm) HO.out
            have HDO := Lib.hid (do_any p p2 r m st D d wr HB.out HIN.out (by have := HDL.out; omega) (by have := HO.out.size; have := HP.out; omega))
            obtain ⟨keep, by_, raw, qa, qn, qc, ql, aa, an, ac, al⟩ := d
            obtain ⟨d0, d1, d2, d3, d4⟩ := hd
            unfold AcD.v at HDO
            dsimp only at d0 d1 d2 d3 d4 HDO
            clear hcell hin HIN
            have hk1 : (k : Int) < l2 := by omega
            have hk2 : (k : Int) < 60 := by omega
            have hk0 : (0 : Int) ≤ k := by omega
            go_wp2_with fail
            refine HDO.out.mono ?_
            rintro _ w5 ⟨rfl, ⟨D', hl', hb, hri⟩, ho⟩
            have HB5 := Lib.hid hb
            have HL5 : Hid (D'.length ≤ k + 1 + 60) := Lib.hid (by have := HDL.out; omega)
            have HO5 : Hid (Only (fun x => p ≤ x) w w5) := Lib.hid (HO.out.trans ho)
            have HRI5 := Lib.hid (hri HRI.out)
            clear hb ho d0 d1 d2 d3 d4 HDO HB HO hl' HDL hri HRI
            go_wp2_with fail
            go_roundw
            case rel => exact ⟨k + 1, D', by omega, by go_num, HL5, HRI5, HB5, HO5⟩
            case measure => simp [intOf]; omega
          · have hk2 : ¬ (k : Int) < 60 := by omega
            generalize lastK D = Z at *
            go_wp2_with fail
            refine HFIN.out.1.mono ?_
            rintro _ w8 ⟨rfl, ho⟩
            have HO8 := Lib.hid ho
            clear ho
            go_wp2_with fail
            refine (HFIN.out.2 w8 HO8.out).mono ?_
            rintro _ w9 ⟨rfl, ho⟩
            have HO9 := Lib.hid (HEND.out _ (HO.out.trans ((HO8.out.trans ho).mono (fun _ _ f => f.elim))))
            clear ho
            go_wp2_with fail
            go_ret
            exact ⟨by simp, HO9.out⟩
        · have hk2 : ¬ (k : Int) < l2 := by omega
          generalize lastK D = Z at *
          go_wp2_with fail
          refine HFIN.out.1.mono ?_
          rintro _ w8 ⟨rfl, ho⟩
          have HO8 := Lib.hid ho
          clear ho
          go_wp2_with fail
          refine (HFIN.out.2 w8 HO8.out).mono ?_
          rintro _ w9 ⟨rfl, ho⟩
          have HO9 := Lib.hid (HEND.out _ (HO.out.trans ((HO8.out.trans ho).mono (fun _ _ f => f.elim))))
          clear ho
          go_wp2_with fail
          go_ret
          exact ⟨by simp, HO9.out⟩
    · exact absurd HOKB.out.1 hno
theorem wback_walk (s0 s1 : Int) (a1 : Option Addr) (l1 c1 : Nat) (a2 : Option Addr) (l2 c2 : Nat) (w : World) (h1 : RowW w a1 l1) (h2 : RowW w a2 l2) :
    Calls Try.prog 7 #[.agg #[.int .i64 s0, .int .i64 s1], .slice a1 l1 c1, .slice a2 l2 c2] w fun e w' => e = .returned (.bool true) ∧ Below w.heap.size w w' :=
  (wback_any s0 s1 a1 l1 c1 a2 l2 c2 w h1 h2).mono fun _ _ ⟨p, q⟩ => ⟨p, q.none⟩
end Go.Proofs.Ytpjbgcbjelcnbaa.wnd
