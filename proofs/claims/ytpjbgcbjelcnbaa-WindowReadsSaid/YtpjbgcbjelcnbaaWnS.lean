/- A window's bytes: as mathematics; what the document's Write answers, and the program's. -/
import Derived.Test.YtpjbgcbjelcnbaaWnM
import Derived.Test.YtpjbgcbjelcnbaaCodG
import Derived.Test.YtpjbgcbjelcnbaaRdS
namespace Go.Proofs.Ytpjbgcbjelcnbaa.wnd
open Go.RowKit mem rowz dskw codm codp
set_option linter.unusedVariables false

def entB (x : Kp) : List Nat := enc x.n.toNat ++ (textB x.q ++ textB x.a)
def headB (m : Nat) (strict : Bool) (z : Int) (len : Nat) : List Nat := enc m ++ (flagB strict ++ (enc (zig z) ++ enc len))
def winB (m : Nat) (strict : Bool) (K : List Kp) : List Nat := headB m strict (lastK K) K.length ++ K.flatMap entB
theorem cstr : (codw.strN : List Nat → ByteArray) = dskw.strN := rfl
theorem r3uint (n : Int) (w : World) (h0 : 0 ≤ n) (h1 : n ≤ 9223372036854775807) : Calls Try.prog 63 #[.int .i64 n] w fun e w' => e = .returned (.string (strN (enc n.toNat))) ∧ Only (fun _ => False) w w' := by
  have := codw.ruint_any n w ⟨by omega, h1⟩
  unfold codw.rucount at this
  rw [if_neg (by omega)] at this
  exact this
theorem r3int (n : Int) (w : World) (h : -9223372036854775808 ≤ n ∧ n ≤ 9223372036854775807) : Calls Try.prog 85 #[.int .i64 n] w fun e w' => e = .returned (.string (strN (enc (zig n)))) ∧ Only (fun _ => False) w w' := codw.rint_ref n w h
theorem r3flag (b : Bool) (w : World) : Calls Try.prog 64 #[.bool b] w fun e w' => e = .returned (.string (strN (flagB b))) ∧ Only (fun _ => False) w w' := by
  refine (codw.rflag_any b w).mono ?_
  rintro _ w' ⟨rfl, rfl⟩
  exact ⟨rfl, Only.refl _ _⟩
theorem r3text (l : List Nat) (w : World) (hl : l.length ≤ 1000000) : Calls Try.prog 86 #[.string (strN l)] w fun e w' => e = .returned (.string (strN (textB l))) ∧ Only (fun _ => False) w w' := codw.rtext_any l w hl
theorem textB_len (t : List Nat) : (textB t).length ≤ 11 + t.length := by unfold textB; rw [List.length_append]; have := enc_length t.length; omega
theorem entB_len {x : Kp} (h : KOk x) : (entB x).length ≤ 131105 := by
  unfold entB
  rw [List.length_append, List.length_append]
  have h1 := (enc_length x.n.toNat).1
  have h2 := textB_len x.q
  have h3 := textB_len x.a
  have := h.2.2.1
  have := h.2.2.2.1
  omega
theorem ents_len : ∀ (K : List Kp), (∀ x ∈ K, KOk x) → (K.flatMap entB).length ≤ K.length * 131105 := by
  intro K
  induction K with
  | nil => intro _; simp
  | cons x r ih =>
    intro h
    rw [List.flatMap_cons, List.length_append, List.length_cons]
    have h1 := entB_len (h x List.mem_cons_self)
    have h2 := ih (fun y hy => h y (List.mem_cons_of_mem _ hy))
    omega
theorem headB_len (m : Nat) (strict : Bool) (z : Int) (len : Nat) : (headB m strict z len).length ≤ 34 := by
  unfold headB
  simp only [List.length_append]
  have h1 := (enc_length m).1
  have h2 := (enc_length (zig z)).1
  have h3 := (enc_length len).1
  have h4 : (flagB strict).length = 1 := by cases strict <;> rfl
  omega
theorem ents_snoc (K : List Kp) (i : Nat) (h : i < K.length) : (K.take (i + 1)).flatMap entB = (K.take i).flatMap entB ++ entB (K.getD i default) := by
  have e : K.take (i + 1) = K.take i ++ [K.getD i default] := by
    rw [List.take_succ_eq_append_getElem h]; simp [List.getD, h]
  rw [e, List.flatMap_append]
  simp
theorem keptD_ok {m : Nat} {D : List Kp} (h : ∀ x ∈ D, KOk x) : ∀ x ∈ keptD m D, KOk x := fun x hx => h x (keptD_mem hx)
/-- a sum of strings -/
theorem sum_strN (l r : List Nat) (hl : l.length ≤ 100000000) (hr : r.length ≤ 100000000) : strN l ++ strN r = strN (l ++ r) ∧ ¬ (9223372036854775807 < (strN l).size + (strN r).size) :=
  ⟨strN_append l r, by rw [strN_size, strN_size]; omega⟩
set_option maxRecDepth 100000 in
set_option maxHeartbeats 4000000 in
theorem rwrite_any (r m : Nat) (strict : Bool) (v : Value) (D : List Kp) (w : World) (h : DwAt w r m strict v D) : Calls Try.prog 39 #[.pointer (some ⟨r, 0, none⟩)] w fun e w' => e = .returned (.string (strN (winB m strict (keptD m D)))) ∧ Only (fun _ => False) w w' := by
  have HD := Lib.hid h
  have hmo := h.mo
  have hzb : -1 ≤ lastK (keptD m D) ∧ lastK (keptD m D) ≤ 4611686018427387904 := by
    rw [keptD_last m D hmo.1]
    unfold lastK
    by_cases h0 : D.length = 0
    · rw [if_pos h0]; omega
    · rw [if_neg h0]
      have := (getK_ok h.ok (k := D.length - 1) (by omega)).2.2.2.2
      omega
  have HLK := Lib.hid (keptD_last m D h.mo.1)
  have HKO := Lib.hid (fun k (hk : k < (keptD m D).length) => getK_ok (keptD_ok (m := m) h.ok) hk)
  have HEL := Lib.hid (fun i => ents_len ((keptD m D).take i) (fun x hx => keptD_ok h.ok x (List.mem_of_mem_take hx)))
  have hkl : (keptD m D).length ≤ 64 := by have := keptD_len m D; omega
  have HK := Lib.hid (rkept_any r m strict v D w h)
  have HSD : Hid (∀ w', Only (fun _ => False) w w' → w'.cell? ⟨r, 0, none⟩ = some (.int .i64 (m : Int)) ∧ w'.cell? ⟨r, 1, none⟩ = some (.bool strict)) := Lib.hid (fun w' ho => ⟨(HD.out.quiet ho).c0, (HD.out.quiet ho).c1⟩)
  have HRL : Hid (∀ w', Only (fun _ => False) w w' → Calls Try.prog 36 #[.pointer (some ⟨r, 0, none⟩)] w' fun e w'' => e = .returned (.int .i64 (lastK (keptD m D))) ∧ Only (fun _ => False) w' w'') := Lib.hid (fun w' ho => by rw [HLK.out]; exact rlast_any r m strict v D w' (HD.out.quiet ho))
  generalize keptD m D = K at *
  obtain ⟨len, hln⟩ : ∃ x, K.length = x := ⟨_, rfl⟩
  have HLN := Lib.hid hln
  obtain ⟨Z, hZ⟩ : ∃ x, lastK K = x := ⟨_, rfl⟩
  rw [hZ] at HRL hzb
  obtain ⟨H, hH⟩ : ∃ x, headB m strict (lastK K) K.length = x := ⟨_, rfl⟩
  have HH := Lib.hid hH
  have hHl : H.length ≤ 34 := by rw [← hH]; exact headB_len _ _ _ _
  have HPL : Hid (∀ i, i ≤ len → (H ++ (K.take i).flatMap entB).length ≤ 9000000) := Lib.hid (fun i hi => by
    rw [List.length_append]
    have := HEL.out i
    rw [List.length_take] at this
    have h2 : min i K.length * 131105 ≤ 64 * 131105 := Nat.mul_le_mul_right _ (by omega)
    omega)
  rw [hln] at HKO hkl hH
  rw [hZ] at hH
  have HC1 : Hid (∀ w', _) := Lib.hid (fun w' => r3uint (m : Int) w' (by omega) (by omega))
  have HC2 : Hid (∀ w', _) := Lib.hid (fun w' => r3flag strict w')
  have HC4 : Hid (∀ w', _) := Lib.hid (fun w' => r3int Z w' (by omega))
  have HC5 : Hid (∀ w', _) := Lib.hid (fun w' => r3uint (len : Int) w' (by omega) (by omega))
  rw [Int.toNat_natCast] at HC1 HC5
  unfold headB at hH
  have hl1 := (enc_length m).1
  have hl2 : (flagB strict).length = 1 := by cases strict <;> rfl
  have hl3 := (enc_length (zig Z)).1
  have hl4 := (enc_length len).1
  have hs1 := sum_strN (enc m) (flagB strict) (by omega) (by omega)
  have hs2 := sum_strN (enc m ++ flagB strict) (enc (zig Z)) (by rw [List.length_append]; omega) (by omega)
  have hs3 := sum_strN (enc m ++ flagB strict ++ enc (zig Z)) (enc len) (by rw [List.length_append, List.length_append]; omega) (by omega)
  have HFH : Hid (enc m ++ flagB strict ++ enc (zig Z) ++ enc len = H) := Lib.hid (by rw [← hH]; simp only [List.append_assoc])
  rw [HFH.out] at hs3
  clear h hH hZ hln hl1 hl2 hl3 hl4
  generalize strN (enc m ++ flagB strict ++ enc (zig Z)) = T3 at *
  generalize strN (enc m ++ flagB strict) = T2 at *
  generalize strN (enc m) = G1 at *
  generalize strN (flagB strict) = G2 at *
  generalize strN (enc (zig Z)) = G3 at *
  generalize strN (enc len) = G4 at *
  obtain ⟨d1, f1⟩ := hs1
  obtain ⟨d2, f2⟩ := hs2
  obtain ⟨d3, f3⟩ := hs3
  go_enter Try.func39, Try.ntmps39
  go_wp2_with fail
  refine HK.out.mono ?_
  rintro _ w1 ⟨ka, kc, rfl, hkr, ho⟩
  have HO1 := Lib.hid ho
  have HKR := Lib.hid hkr
  rw [HLN.out] at HKR ⊢
  have HSL : Hid (∀ w', Only (fun _ => False) w1 w' → w'.cell? ⟨r, 0, none⟩ = some (.int .i64 (m : Int)) ∧ w'.cell? ⟨r, 1, none⟩ = some (.bool strict)) := Lib.hid (fun w' h => HSD.out w' (HO1.out.trans h))
  have HC3 : Hid (∀ w', Only (fun _ => False) w1 w' → _) := Lib.hid (fun w' (h : Only (fun _ => False) w1 w') => HRL.out w' (HO1.out.trans h))
  clear HK ho hkr HSD HRL
  go_upto_region 2 with fail
  refine wp_region_noPanic ?_
  refine late.region (fun w' => w'.cell? ⟨r, 0, none⟩ = some (.int .i64 (m : Int)) ∧ w'.cell? ⟨r, 1, none⟩ = some (.bool strict)) (fun j => [].contains j) (by kernel_rfl) (HSL.out _ (Only.refl _ _).drew) (fun hHeld => ?_)
  obtain ⟨z0, hz0⟩ : ∃ x, x = w1.drew := ⟨_, rfl⟩
  rw [← hz0] at hHeld ⊢
  have hot : Hid (Only (fun _ => False) w1 z0) := Lib.hid (by rw [hz0]; exact (Only.refl _ _).drew)
  clear hz0
  refine late.take (i := 0) [1, 2, 3, 4, 9, 10, 12, 13, 14, 17, 18, 19] (v := ?_) rfl (by kernel_rfl) (by kernel_rfl) (by kernel_rfl) (by kernel_rfl) (fun _ _ _ h => h) (Or.inl ⟨by rfl, ?_⟩) (by assumption) ?_
  rotate_left 1
  · intro w' hSw
    try dsimp only at hSw
    go_simp
    try with_reducible rfl
  try simp only [List.getElem_toArray, List.getElem_cons_zero, Act.put, List.setIfInBounds_toArray, List.set_cons_zero, List.set_cons_succ]
  refine late.take (i := 1) [2, 3, 4, 9, 10, 12, 13, 14, 17, 18, 19] (v := ?_) rfl (by kernel_rfl) (by kernel_rfl) (by kernel_rfl) (by kernel_rfl) (fun _ _ _ h => h) (Or.inl ⟨by rfl, ?_⟩) (by assumption) ?_
  rotate_left 1
  · intro w' hSw
    try dsimp only at hSw
    go_simp
    try with_reducible rfl
  try simp only [List.getElem_toArray, List.getElem_cons_zero, List.getElem_cons_succ, Act.put, List.setIfInBounds_toArray, List.set_cons_zero, List.set_cons_succ]
  refine late.take (i := 2) [3, 4, 9, 10, 12, 13, 14, 17, 18, 19] (v := ?_) rfl (by kernel_rfl) (by kernel_rfl) (by kernel_rfl) (by kernel_rfl) (fun _ _ _ h => h) (Or.inl ⟨by rfl, ?_⟩) (by assumption) ?_
  rotate_left 1
  · intro w' hSw
    try dsimp only at hSw
    go_simp
    try with_reducible rfl
  try simp only [List.getElem_toArray, List.getElem_cons_zero, List.getElem_cons_succ, Act.put, List.setIfInBounds_toArray, List.set_cons_zero, List.set_cons_succ]
  refine late.take (i := 3) [4, 9, 10, 12, 13, 14, 17, 18, 19] (v := ?_) rfl (by kernel_rfl) (by kernel_rfl) (by kernel_rfl) (by kernel_rfl) (fun _ _ _ h => h) (Or.inl ⟨by rfl, ?_⟩) (by assumption) ?_
  rotate_left 1
  · intro w' hSw
    try dsimp only at hSw
    go_simp
    try with_reducible rfl
  try simp only [List.getElem_toArray, List.getElem_cons_zero, List.getElem_cons_succ, Act.put, List.setIfInBounds_toArray, List.set_cons_zero, List.set_cons_succ]
  refine late.take (i := 5) [6, 7, 8, 9, 10, 12, 13, 14, 17, 18, 19] (v := ?_) rfl (by kernel_rfl) (by kernel_rfl) (by kernel_rfl) (by kernel_rfl) (fun _ _ _ h => h) (Or.inl ⟨by rfl, ?_⟩) (by assumption) ?_
  rotate_left 1
  · intro w' hSw
    try dsimp only at hSw
    go_simp
    try with_reducible rfl
  try simp only [List.getElem_toArray, List.getElem_cons_zero, List.getElem_cons_succ, Act.put, List.setIfInBounds_toArray, List.set_cons_zero, List.set_cons_succ]
  refine late.take (i := 6) [7, 8, 9, 10, 12, 13, 14, 17, 18, 19] (v := ?_) rfl (by kernel_rfl) (by kernel_rfl) (by kernel_rfl) (by kernel_rfl) (fun _ _ _ h => h) (Or.inl ⟨by rfl, ?_⟩) (by assumption) ?_
  rotate_left 1
  · intro w' hSw
    try dsimp only at hSw
    go_simp
    try with_reducible rfl
  try simp only [List.getElem_toArray, List.getElem_cons_zero, List.getElem_cons_succ, Act.put, List.setIfInBounds_toArray, List.set_cons_zero, List.set_cons_succ]
  refine late.take (i := 7) [8, 9, 10, 12, 13, 14, 17, 18, 19] (v := ?_) rfl (by kernel_rfl) (by kernel_rfl) (by kernel_rfl) (by kernel_rfl) (fun _ _ _ h => h) (Or.inl ⟨by rfl, ?_⟩) (by assumption) ?_
  rotate_left 1
  · intro w' hSw
    try dsimp only at hSw
    go_simp
    try with_reducible rfl
  try simp only [List.getElem_toArray, List.getElem_cons_zero, List.getElem_cons_succ, Act.put, List.setIfInBounds_toArray, List.set_cons_zero, List.set_cons_succ]
  refine late.take (i := 8) [9, 10, 12, 13, 14, 17, 18, 19] (v := ?_) rfl (by kernel_rfl) (by kernel_rfl) (by kernel_rfl) (by kernel_rfl) (fun _ _ _ h => h) (Or.inl ⟨by rfl, ?_⟩) (by assumption) ?_
  rotate_left 1
  · intro w' hSw
    try dsimp only at hSw
    go_simp
    try with_reducible rfl
  try simp only [List.getElem_toArray, List.getElem_cons_zero, List.getElem_cons_succ, Act.put, List.setIfInBounds_toArray, List.set_cons_zero, List.set_cons_succ]
  refine late.take (i := 11) [12, 13, 14, 17, 18, 19] (v := ?_) rfl (by kernel_rfl) (by kernel_rfl) (by kernel_rfl) (by kernel_rfl) (fun _ _ _ h => h) (Or.inl ⟨by rfl, ?_⟩) (by assumption) ?_
  rotate_left 1
  · intro w' hSw
    try dsimp only at hSw
    go_simp
    try with_reducible rfl
  try simp only [List.getElem_toArray, List.getElem_cons_zero, List.getElem_cons_succ, Act.put, List.setIfInBounds_toArray, List.set_cons_zero, List.set_cons_succ]
  refine late.take (i := 15) [16, 17, 18, 19] (v := ?_) rfl (by kernel_rfl) (by kernel_rfl) (by kernel_rfl) (by kernel_rfl) (fun _ _ _ h => h) (Or.inl ⟨by rfl, ?_⟩) (by assumption) ?_
  rotate_left 1
  · intro w' hSw
    try dsimp only at hSw
    go_simp
    try with_reducible rfl
  try simp only [List.getElem_toArray, List.getElem_cons_zero, List.getElem_cons_succ, Act.put, List.setIfInBounds_toArray, List.set_cons_zero, List.set_cons_succ]
  refine late.take (i := 16) [17, 18, 19] (v := ?_) rfl (by kernel_rfl) (by kernel_rfl) (by kernel_rfl) (by kernel_rfl) (fun _ _ _ h => h) (Or.inl ⟨by rfl, ?_⟩) (by assumption) ?_
  rotate_left 1
  · intro w' hSw
    try dsimp only at hSw
    go_simp
    try with_reducible rfl
  try simp only [List.getElem_toArray, List.getElem_cons_zero, List.getElem_cons_succ, Act.put, List.setIfInBounds_toArray, List.set_cons_zero, List.set_cons_succ]
  refine late.ready (rs := [4]) (by kernel_rfl) (by simp) ?_
  refine late.Each.cons rfl (fun K hK => ?_) late.Each.nil
  try simp only [List.getElem_toArray, List.getElem_cons_zero, List.getElem_cons_succ]
  go_simp
  go_at_call 63
  with_reducible refine (HC1.out _).mono ?_
  rintro _ W1 ⟨rfl, ho⟩
  replace hot := Lib.hid (hot.out.trans ho)
  clear ho
  try dsimp only
  refine hK.out _ _ (fun _ => HSL.out _ hot.out) (fun hHeld1 => ?_)
  replace hHeld1 := hHeld1 rfl
  clear hK K
  try simp only [List.getElem_toArray, List.getElem_cons_zero, List.getElem_cons_succ, Act.put, List.setIfInBounds_toArray, List.set_cons_zero, List.set_cons_succ]
  refine late.ready (rs := [9]) (by kernel_rfl) (by simp) ?_
  refine late.Each.cons rfl (fun K hK => ?_) late.Each.nil
  try simp only [List.getElem_toArray, List.getElem_cons_zero, List.getElem_cons_succ]
  go_simp
  go_at_call 64
  with_reducible refine (HC2.out _).mono ?_
  rintro _ W2 ⟨rfl, ho⟩
  replace hot := Lib.hid (hot.out.trans ho)
  clear ho
  try dsimp only
  refine hK.out _ _ (fun _ => HSL.out _ hot.out) (fun hHeld2 => ?_)
  replace hHeld2 := hHeld2 rfl
  clear hK K
  try simp only [List.getElem_toArray, List.getElem_cons_zero, List.getElem_cons_succ, Act.put, List.setIfInBounds_toArray, List.set_cons_zero, List.set_cons_succ]
  refine late.take (i := 10) [14, 18, 19] (v := ?_) rfl (by kernel_rfl) (by kernel_rfl) (by kernel_rfl) (by kernel_rfl) (fun _ _ _ h => h) (Or.inl ⟨by rfl, ?_⟩) (by assumption) ?_
  rotate_left 1
  · intro w' hSw
    try dsimp only at hSw
    go_simp
    try with_reducible rfl
  try simp only [List.getElem_toArray, List.getElem_cons_zero, List.getElem_cons_succ, Act.put, List.setIfInBounds_toArray, List.set_cons_zero, List.set_cons_succ]
  refine late.ready (rs := [12]) (by kernel_rfl) (by simp) ?_
  refine late.Each.cons rfl (fun K hK => ?_) late.Each.nil
  try simp only [List.getElem_toArray, List.getElem_cons_zero, List.getElem_cons_succ]
  go_simp
  go_at_call 36
  with_reducible refine (HC3.out _ hot.out).mono ?_
  rintro _ W3 ⟨rfl, ho⟩
  replace hot := Lib.hid (hot.out.trans ho)
  clear ho
  try dsimp only
  refine hK.out _ _ (fun _ => HSL.out _ hot.out) (fun hHeld3 => ?_)
  replace hHeld3 := hHeld3 rfl
  clear hK K
  try simp only [List.getElem_toArray, List.getElem_cons_zero, List.getElem_cons_succ, Act.put, List.setIfInBounds_toArray, List.set_cons_zero, List.set_cons_succ]
  refine late.ready (rs := [13]) (by kernel_rfl) (by simp) ?_
  refine late.Each.cons rfl (fun K hK => ?_) late.Each.nil
  try simp only [List.getElem_toArray, List.getElem_cons_zero, List.getElem_cons_succ]
  go_simp
  go_at_call 85
  with_reducible refine (HC4.out _).mono ?_
  rintro _ W4 ⟨rfl, ho⟩
  replace hot := Lib.hid (hot.out.trans ho)
  clear ho
  try dsimp only
  refine hK.out _ _ (fun _ => HSL.out _ hot.out) (fun hHeld4 => ?_)
  replace hHeld4 := hHeld4 rfl
  clear hK K
  try simp only [List.getElem_toArray, List.getElem_cons_zero, List.getElem_cons_succ, Act.put, List.setIfInBounds_toArray, List.set_cons_zero, List.set_cons_succ]
  refine late.take (i := 14) [18, 19] (v := ?_) rfl (by kernel_rfl) (by kernel_rfl) (by kernel_rfl) (by kernel_rfl) (fun _ _ _ h => h) (Or.inl ⟨by rfl, ?_⟩) (by assumption) ?_
  rotate_left 1
  · intro w' hSw
    try dsimp only at hSw
    go_simp
    try with_reducible rfl
  try simp only [List.getElem_toArray, List.getElem_cons_zero, List.getElem_cons_succ, Act.put, List.setIfInBounds_toArray, List.set_cons_zero, List.set_cons_succ]
  refine late.ready (rs := [17]) (by kernel_rfl) (by simp) ?_
  refine late.Each.cons rfl (fun K hK => ?_) late.Each.nil
  try simp only [List.getElem_toArray, List.getElem_cons_zero, List.getElem_cons_succ]
  go_simp
  go_at_call 63
  with_reducible refine (HC5.out _).mono ?_
  rintro _ W5 ⟨rfl, ho⟩
  replace hot := Lib.hid (hot.out.trans ho)
  clear ho
  try dsimp only
  refine hK.out _ _ (fun _ => HSL.out _ hot.out) (fun hHeld5 => ?_)
  replace hHeld5 := hHeld5 rfl
  clear hK K
  try simp only [List.getElem_toArray, List.getElem_cons_zero, List.getElem_cons_succ, Act.put, List.setIfInBounds_toArray, List.set_cons_zero, List.set_cons_succ]
  refine late.take (i := 18) [19] (v := ?_) rfl (by kernel_rfl) (by kernel_rfl) (by kernel_rfl) (by kernel_rfl) (fun _ _ _ h => h) (Or.inl ⟨by rfl, ?_⟩) (by assumption) ?_
  rotate_left 1
  · intro w' hSw
    try dsimp only at hSw
    go_simp
    try with_reducible rfl
  try simp only [List.getElem_toArray, List.getElem_cons_zero, List.getElem_cons_succ, Act.put, List.setIfInBounds_toArray, List.set_cons_zero, List.set_cons_succ]
  refine late.take (i := 19) [] (v := ?_) rfl (by kernel_rfl) (by kernel_rfl) (by kernel_rfl) (by kernel_rfl) (fun _ _ _ h => h) (Or.inl ⟨by rfl, ?_⟩) (by assumption) ?_
  rotate_left 1
  · intro w' hSw
    try dsimp only at hSw
    go_simp
    try with_reducible rfl
  try simp only [List.getElem_toArray, List.getElem_cons_zero, List.getElem_cons_succ, Act.put, List.setIfInBounds_toArray, List.set_cons_zero, List.set_cons_succ]
  refine late.done (by kernel_rfl) ?_ _
  refine NoPanic.normal ?_
  have HO2 := Lib.hid (HO1.out.trans hot.out)
  have HKR2 := Lib.hid (HKR.out.only hot.out (fun _ _ f => f))
  clear hHeld hot HSL HC1 HC2 HC3 HC4 HC5 HKR
  rename World => w2
  go_wp2_with fail
  go_loopw [4, 5] (fun sv iv wr => ∃ (i : Nat), i ≤ len ∧ iv = .int .i64 (i : Int) ∧ sv = .string (strN (H ++ (K.take i).flatMap entB)) ∧ Hid (ReadsD wr ka len K) ∧ Hid (Only (fun _ => False) w wr)) (fun _ iv _ => len - (intOf iv).toNat)
  case atStart => exact ⟨0, by omega, rfl, by simp, HKR2, HO2⟩
  case round =>
    obtain ⟨i, hi, rfl, rfl, HRR, HO⟩ := hrel
    rename World => wr
    by_cases h8 : i < len
    · obtain ⟨b, off, rfl, hcell⟩ := HRR.out.2.resolve_left (by omega)
      obtain ⟨c0, c1, c2⟩ := hcell i h8
      have hko := HKO.out i h8
      have HSN := Lib.hid (ents_snoc K i (by rw [HLN.out]; exact h8))
      have hpl := HPL.out i hi
      generalize K.getD i default = x at *
      obtain ⟨xn, xq, xa⟩ := x
      dsimp only at c0 c1 c2
      obtain ⟨k1, k2, k3, k4, k5, k6⟩ := hko
      dsimp only at k1 k2 k3 k4 k5 k6
      have HE1 : Hid (∀ w', _) := Lib.hid (fun w' => r3uint xn w' k5 (by omega))
      have HE2 : Hid (∀ w', _) := Lib.hid (fun w' => r3text xq w' (by omega))
      have HE3 : Hid (∀ w', _) := Lib.hid (fun w' => r3text xa w' (by omega))
      have HSM : Hid (∀ w', Only (fun _ => False) wr w' → w'.cell? ⟨b, off + i * 3, none⟩ = some (.int .i64 xn) ∧ w'.cell? ⟨b, off + i * 3 + 1, none⟩ = some (.string (strN xq)) ∧ w'.cell? ⟨b, off + i * 3 + 2, none⟩ = some (.string (strN xa))) := Lib.hid (fun w' ho => ⟨ho.cell' c0 (fun f => f), ho.cell' c1 (fun f => f), ho.cell' c2 (fun f => f)⟩)
      have hin : (i : Int) < len := by omega
      have hi0 : (0 : Int) ≤ i := by omega
      have hi64 : (i : Int) ≤ 64 := by omega
      have hs1 := sum_strN (H ++ (K.take i).flatMap entB) (enc xn.toNat) (by omega) (by have := (enc_length xn.toNat).1; omega)
      have hs2 := sum_strN (H ++ (K.take i).flatMap entB ++ enc xn.toNat) (textB xq) (by rw [List.length_append]; have := (enc_length xn.toNat).1; omega) (by have := textB_len xq; omega)
      have hs3 := sum_strN (H ++ (K.take i).flatMap entB ++ enc xn.toNat ++ textB xq) (textB xa) (by rw [List.length_append, List.length_append]; have := (enc_length xn.toNat).1; have := textB_len xq; omega) (by have := textB_len xa; omega)
      have HFB : Hid (H ++ (K.take i).flatMap entB ++ enc xn.toNat ++ textB xq ++ textB xa = H ++ (K.take (i + 1)).flatMap entB) := Lib.hid (by rw [HSN.out]; unfold entB; simp only [List.append_assoc])
      generalize strN (H ++ (K.take i).flatMap entB) = S0 at *
      generalize strN (H ++ (K.take i).flatMap entB ++ enc xn.toNat) = S1 at *
      generalize strN (H ++ (K.take i).flatMap entB ++ enc xn.toNat ++ textB xq) = S2 at *
      rw [HFB.out] at hs3
      generalize hS3 : strN (H ++ (K.take (i + 1)).flatMap entB) = S3 at *
      have HS3 := Lib.hid hS3
      clear hS3
      generalize strN (enc xn.toNat) = E1 at *
      generalize strN (textB xq) = E2 at *
      generalize strN (textB xa) = E3 at *
      obtain ⟨a1, b1⟩ := hs1
      obtain ⟨a2, b2⟩ := hs2
      obtain ⟨a3, b3⟩ := hs3
      clear hcell k1 k2 k3 k4 k5 k6 HFB hpl
      go_upto_region 6 with fail
      refine wp_region_noPanic ?_
      refine late.region (fun w' => w'.cell? ⟨b, off + i * 3, none⟩ = some (.int .i64 xn) ∧ w'.cell? ⟨b, off + i * 3 + 1, none⟩ = some (.string (strN xq)) ∧ w'.cell? ⟨b, off + i * 3 + 2, none⟩ = some (.string (strN xa))) (fun j => [].contains j) (by kernel_rfl) (HSM.out _ (Only.refl _ _).drew) (fun hHeld => ?_)
      obtain ⟨z0, hz0⟩ : ∃ x, x = wr.drew := ⟨_, rfl⟩
      rw [← hz0] at hHeld ⊢
      have hot : Hid (Only (fun _ => False) wr z0) := Lib.hid (by rw [hz0]; exact (Only.refl _ _).drew)
      clear hz0
      refine late.take (i := 0) [7, 14, 21, 22] (v := ?_) rfl (by kernel_rfl) (by kernel_rfl) (by kernel_rfl) (by kernel_rfl) (fun _ _ _ h => h) (Or.inl ⟨by rfl, ?_⟩) (by assumption) ?_
      rotate_left 1
      · intro w' hSw
        try dsimp only at hSw
        go_simp
        try with_reducible rfl
      try simp only [List.getElem_toArray, List.getElem_cons_zero, Act.put, List.setIfInBounds_toArray, List.set_cons_zero, List.set_cons_succ]
      refine late.take (i := 1) [3, 4, 5, 6, 7, 13, 14, 20, 21, 22] (v := ?_) rfl (by kernel_rfl) (by kernel_rfl) (by kernel_rfl) (by kernel_rfl) (fun _ _ _ h => h) (Or.inl ⟨by rfl, ?_⟩) (by assumption) ?_
      rotate_left 1
      · intro w' hSw
        try dsimp only at hSw
        go_simp
        try with_reducible rfl
      try simp only [List.getElem_toArray, List.getElem_cons_zero, List.getElem_cons_succ, Act.put, List.setIfInBounds_toArray, List.set_cons_zero, List.set_cons_succ]
      refine late.take (i := 2) [3, 4, 5, 6, 7, 13, 14, 20, 21, 22] (v := ?_) rfl (by kernel_rfl) (by kernel_rfl) (by kernel_rfl) (by kernel_rfl) (fun _ _ _ h => h) (Or.inl ⟨by rfl, ?_⟩) (by assumption) ?_
      rotate_left 1
      · intro w' hSw
        try dsimp only at hSw
        go_simp
        try with_reducible rfl
      try simp only [List.getElem_toArray, List.getElem_cons_zero, List.getElem_cons_succ, Act.put, List.setIfInBounds_toArray, List.set_cons_zero, List.set_cons_succ]
      refine late.take (i := 3) [4, 5, 6, 7, 13, 14, 20, 21, 22] (v := ?_) rfl (by kernel_rfl) (by kernel_rfl) (by kernel_rfl) (by kernel_rfl) (fun _ _ _ h => h) (Or.inl ⟨by rfl, ?_⟩) (by assumption) ?_
      rotate_left 1
      · intro w' hSw
        try dsimp only at hSw
        go_simp
        try with_reducible rfl
      try simp only [List.getElem_toArray, List.getElem_cons_zero, List.getElem_cons_succ, Act.put, List.setIfInBounds_toArray, List.set_cons_zero, List.set_cons_succ]
      refine late.take (i := 4) [5, 6, 7, 13, 14, 20, 21, 22] (v := ?_) rfl (by kernel_rfl) (by kernel_rfl) (by kernel_rfl) (by kernel_rfl) (fun _ _ _ h => h) (Or.inl ⟨by rfl, ?_⟩) (by assumption) ?_
      rotate_left 1
      · intro w' hSw
        try dsimp only at hSw
        go_simp
        try with_reducible rfl
      try simp only [List.getElem_toArray, List.getElem_cons_zero, List.getElem_cons_succ, Act.put, List.setIfInBounds_toArray, List.set_cons_zero, List.set_cons_succ]
      refine late.take (i := 5) [6, 7, 13, 14, 20, 21, 22] (v := ?_) rfl (by kernel_rfl) (by kernel_rfl) (by kernel_rfl) (by kernel_rfl) (fun _ _ _ h => h) (Or.inl ⟨by rfl, ?_⟩) (by assumption) ?_
      rotate_left 1
      · intro w' hSw
        try dsimp only at hSw
        go_simp
        try with_reducible rfl
      try simp only [List.getElem_toArray, List.getElem_cons_zero, List.getElem_cons_succ, Act.put, List.setIfInBounds_toArray, List.set_cons_zero, List.set_cons_succ]
      refine late.take (i := 8) [10, 11, 12, 13, 14, 20, 21, 22] (v := ?_) rfl (by kernel_rfl) (by kernel_rfl) (by kernel_rfl) (by kernel_rfl) (fun _ _ _ h => h) (Or.inl ⟨by rfl, ?_⟩) (by assumption) ?_
      rotate_left 1
      · intro w' hSw
        try dsimp only at hSw
        go_simp
        try with_reducible rfl
      try simp only [List.getElem_toArray, List.getElem_cons_zero, List.getElem_cons_succ, Act.put, List.setIfInBounds_toArray, List.set_cons_zero, List.set_cons_succ]
      refine late.take (i := 9) [10, 11, 12, 13, 14, 20, 21, 22] (v := ?_) rfl (by kernel_rfl) (by kernel_rfl) (by kernel_rfl) (by kernel_rfl) (fun _ _ _ h => h) (Or.inl ⟨by rfl, ?_⟩) (by assumption) ?_
      rotate_left 1
      · intro w' hSw
        try dsimp only at hSw
        go_simp
        try with_reducible rfl
      try simp only [List.getElem_toArray, List.getElem_cons_zero, List.getElem_cons_succ, Act.put, List.setIfInBounds_toArray, List.set_cons_zero, List.set_cons_succ]
      refine late.take (i := 10) [11, 12, 13, 14, 20, 21, 22] (v := ?_) rfl (by kernel_rfl) (by kernel_rfl) (by kernel_rfl) (by kernel_rfl) (fun _ _ _ h => h) (Or.inl ⟨by rfl, ?_⟩) (by assumption) ?_
      rotate_left 1
      · intro w' hSw
        try dsimp only at hSw
        go_simp
        try with_reducible rfl
      try simp only [List.getElem_toArray, List.getElem_cons_zero, List.getElem_cons_succ, Act.put, List.setIfInBounds_toArray, List.set_cons_zero, List.set_cons_succ]
      refine late.take (i := 11) [12, 13, 14, 20, 21, 22] (v := ?_) rfl (by kernel_rfl) (by kernel_rfl) (by kernel_rfl) (by kernel_rfl) (fun _ _ _ h => h) (Or.inl ⟨by rfl, ?_⟩) (by assumption) ?_
      rotate_left 1
      · intro w' hSw
        try dsimp only at hSw
        go_simp
        try with_reducible rfl
      try simp only [List.getElem_toArray, List.getElem_cons_zero, List.getElem_cons_succ, Act.put, List.setIfInBounds_toArray, List.set_cons_zero, List.set_cons_succ]
      refine late.take (i := 12) [13, 14, 20, 21, 22] (v := ?_) rfl (by kernel_rfl) (by kernel_rfl) (by kernel_rfl) (by kernel_rfl) (fun _ _ _ h => h) (Or.inl ⟨by rfl, ?_⟩) (by assumption) ?_
      rotate_left 1
      · intro w' hSw
        try dsimp only at hSw
        go_simp
        try with_reducible rfl
      try simp only [List.getElem_toArray, List.getElem_cons_zero, List.getElem_cons_succ, Act.put, List.setIfInBounds_toArray, List.set_cons_zero, List.set_cons_succ]
      refine late.take (i := 15) [17, 18, 19, 20, 21, 22] (v := ?_) rfl (by kernel_rfl) (by kernel_rfl) (by kernel_rfl) (by kernel_rfl) (fun _ _ _ h => h) (Or.inl ⟨by rfl, ?_⟩) (by assumption) ?_
      rotate_left 1
      · intro w' hSw
        try dsimp only at hSw
        go_simp
        try with_reducible rfl
      try simp only [List.getElem_toArray, List.getElem_cons_zero, List.getElem_cons_succ, Act.put, List.setIfInBounds_toArray, List.set_cons_zero, List.set_cons_succ]
      refine late.take (i := 16) [17, 18, 19, 20, 21, 22] (v := ?_) rfl (by kernel_rfl) (by kernel_rfl) (by kernel_rfl) (by kernel_rfl) (fun _ _ _ h => h) (Or.inl ⟨by rfl, ?_⟩) (by assumption) ?_
      rotate_left 1
      · intro w' hSw
        try dsimp only at hSw
        go_simp
        try with_reducible rfl
      try simp only [List.getElem_toArray, List.getElem_cons_zero, List.getElem_cons_succ, Act.put, List.setIfInBounds_toArray, List.set_cons_zero, List.set_cons_succ]
      refine late.take (i := 17) [18, 19, 20, 21, 22] (v := ?_) rfl (by kernel_rfl) (by kernel_rfl) (by kernel_rfl) (by kernel_rfl) (fun _ _ _ h => h) (Or.inl ⟨by rfl, ?_⟩) (by assumption) ?_
      rotate_left 1
      · intro w' hSw
        try dsimp only at hSw
        go_simp
        try with_reducible rfl
      try simp only [List.getElem_toArray, List.getElem_cons_zero, List.getElem_cons_succ, Act.put, List.setIfInBounds_toArray, List.set_cons_zero, List.set_cons_succ]
      refine late.take (i := 18) [19, 20, 21, 22] (v := ?_) rfl (by kernel_rfl) (by kernel_rfl) (by kernel_rfl) (by kernel_rfl) (fun _ _ _ h => h) (Or.inl ⟨by rfl, ?_⟩) (by assumption) ?_
      rotate_left 1
      · intro w' hSw
        try dsimp only at hSw
        go_simp
        try with_reducible rfl
      try simp only [List.getElem_toArray, List.getElem_cons_zero, List.getElem_cons_succ, Act.put, List.setIfInBounds_toArray, List.set_cons_zero, List.set_cons_succ]
      refine late.take (i := 19) [20, 21, 22] (v := ?_) rfl (by kernel_rfl) (by kernel_rfl) (by kernel_rfl) (by kernel_rfl) (fun _ _ _ h => h) (Or.inl ⟨by rfl, ?_⟩) (by assumption) ?_
      rotate_left 1
      · intro w' hSw
        try dsimp only at hSw
        go_simp
        try with_reducible rfl
      try simp only [List.getElem_toArray, List.getElem_cons_zero, List.getElem_cons_succ, Act.put, List.setIfInBounds_toArray, List.set_cons_zero, List.set_cons_succ]
      refine late.ready (rs := [6]) (by kernel_rfl) (by simp) ?_
      refine late.Each.cons rfl (fun K hK => ?_) late.Each.nil
      try simp only [List.getElem_toArray, List.getElem_cons_zero, List.getElem_cons_succ]
      go_simp
      go_at_call 63
      with_reducible refine (HE1.out _).mono ?_
      rintro _ W1 ⟨rfl, ho⟩
      replace hot := Lib.hid (hot.out.trans ho)
      clear ho
      try dsimp only
      refine hK.out _ _ (fun _ => HSM.out _ hot.out) (fun hHeld1 => ?_)
      replace hHeld1 := hHeld1 rfl
      clear hK K
      try simp only [List.getElem_toArray, List.getElem_cons_zero, List.getElem_cons_succ, Act.put, List.setIfInBounds_toArray, List.set_cons_zero, List.set_cons_succ]
      refine late.take (i := 7) [14, 21, 22] (v := ?_) rfl (by kernel_rfl) (by kernel_rfl) (by kernel_rfl) (by kernel_rfl) (fun _ _ _ h => h) (Or.inl ⟨by rfl, ?_⟩) (by assumption) ?_
      rotate_left 1
      · intro w' hSw
        try dsimp only at hSw
        go_simp
        try with_reducible rfl
      try simp only [List.getElem_toArray, List.getElem_cons_zero, List.getElem_cons_succ, Act.put, List.setIfInBounds_toArray, List.set_cons_zero, List.set_cons_succ]
      refine late.ready (rs := [13]) (by kernel_rfl) (by simp) ?_
      refine late.Each.cons rfl (fun K hK => ?_) late.Each.nil
      try simp only [List.getElem_toArray, List.getElem_cons_zero, List.getElem_cons_succ]
      go_simp
      go_at_call 86
      with_reducible refine (HE2.out _).mono ?_
      rintro _ W2 ⟨rfl, ho⟩
      replace hot := Lib.hid (hot.out.trans ho)
      clear ho
      try dsimp only
      refine hK.out _ _ (fun _ => HSM.out _ hot.out) (fun hHeld2 => ?_)
      replace hHeld2 := hHeld2 rfl
      clear hK K
      try simp only [List.getElem_toArray, List.getElem_cons_zero, List.getElem_cons_succ, Act.put, List.setIfInBounds_toArray, List.set_cons_zero, List.set_cons_succ]
      refine late.take (i := 14) [21, 22] (v := ?_) rfl (by kernel_rfl) (by kernel_rfl) (by kernel_rfl) (by kernel_rfl) (fun _ _ _ h => h) (Or.inl ⟨by rfl, ?_⟩) (by assumption) ?_
      rotate_left 1
      · intro w' hSw
        try dsimp only at hSw
        go_simp
        try with_reducible rfl
      try simp only [List.getElem_toArray, List.getElem_cons_zero, List.getElem_cons_succ, Act.put, List.setIfInBounds_toArray, List.set_cons_zero, List.set_cons_succ]
      refine late.ready (rs := [20]) (by kernel_rfl) (by simp) ?_
      refine late.Each.cons rfl (fun K hK => ?_) late.Each.nil
      try simp only [List.getElem_toArray, List.getElem_cons_zero, List.getElem_cons_succ]
      go_simp
      go_at_call 86
      with_reducible refine (HE3.out _).mono ?_
      rintro _ W3 ⟨rfl, ho⟩
      replace hot := Lib.hid (hot.out.trans ho)
      clear ho
      try dsimp only
      refine hK.out _ _ (fun _ => HSM.out _ hot.out) (fun hHeld3 => ?_)
      replace hHeld3 := hHeld3 rfl
      clear hK K
      try simp only [List.getElem_toArray, List.getElem_cons_zero, List.getElem_cons_succ, Act.put, List.setIfInBounds_toArray, List.set_cons_zero, List.set_cons_succ]
      refine late.take (i := 21) [22] (v := ?_) rfl (by kernel_rfl) (by kernel_rfl) (by kernel_rfl) (by kernel_rfl) (fun _ _ _ h => h) (Or.inl ⟨by rfl, ?_⟩) (by assumption) ?_
      rotate_left 1
      · intro w' hSw
        try dsimp only at hSw
        go_simp
        try with_reducible rfl
      try simp only [List.getElem_toArray, List.getElem_cons_zero, List.getElem_cons_succ, Act.put, List.setIfInBounds_toArray, List.set_cons_zero, List.set_cons_succ]
      refine late.take (i := 22) [] (v := ?_) rfl (by kernel_rfl) (by kernel_rfl) (by kernel_rfl) (by kernel_rfl) (fun _ _ _ h => h) (Or.inl ⟨by rfl, ?_⟩) (by assumption) ?_
      rotate_left 1
      · intro w' hSw
        try dsimp only at hSw
        go_simp
        try with_reducible rfl
      try simp only [List.getElem_toArray, List.getElem_cons_zero, List.getElem_cons_succ, Act.put, List.setIfInBounds_toArray, List.set_cons_zero, List.set_cons_succ]
      refine late.done (by kernel_rfl) ?_ _
      refine NoPanic.normal ?_
      have HRR2 := Lib.hid (HRR.out.only hot.out (fun _ _ f => f))
      have HO9 := Lib.hid (HO.out.trans hot.out)
      clear hHeld hot HSM HE1 HE2 HE3 HRR HO c0 c1 c2 a1 a2 a3 b1 b2 b3 HSN
      go_wp2_with fail
      go_roundw
      case rel => exact ⟨i + 1, by omega, by go_num, by rw [HS3.out], HRR2, HO9⟩
      case measure => simp [intOf]; omega
    · obtain rfl : i = len := by omega
      have HFB : Hid (strN (H ++ (K.take i).flatMap entB) = strN (winB m strict K)) := Lib.hid (by rw [List.take_of_length_le (by rw [HLN.out]; omega)]; unfold winB; rw [HH.out])
      rw [HFB.out]
      have hnl : ¬ (i : Int) < i := by omega
      go_wp2_with fail
      go_ret
      exact ⟨rfl, HO.out⟩
end Go.Proofs.Ytpjbgcbjelcnbaa.wnd
