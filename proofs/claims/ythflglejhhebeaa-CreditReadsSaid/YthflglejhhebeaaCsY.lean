/- The document's Write of a table, as a string. -/
import Derived.Test.YthflglejhhebeaaCsV
import Derived.Test.YthflglejhhebeaaCsH
import Derived.Test.YthflglejhhebeaaRdS
import Derived.Test.YthflglejhhebeaaStrM
namespace Go.Proofs.Ythflglejhhebeaa.cs
open Go.RowKit mem rwg codm codp codw
set_option linter.unusedVariables false

theorem sum_strC (l r : List Nat) (hl : l.length ≤ 100000000) (hr : r.length ≤ 100000000) : dskw.strN l ++ dskw.strN r = dskw.strN (l ++ r) ∧ ¬ (9223372036854775807 < (dskw.strN l).size + (dskw.strN r).size) :=
  ⟨dskw.strN_append l r, by rw [dskw.strN_size, dskw.strN_size]; omega⟩
theorem r3uintC (n : Int) (w : World) (h : FIn n) : Calls Try.prog 46 #[.int .i64 n] w fun e w' => e = .returned (.string (dskw.strN (enc n.toNat))) ∧ Only (fun _ => False) w w' := by
  unfold FIn at h
  have := codw.ruint_any n w ⟨by omega, by omega⟩
  unfold codw.rucount at this
  rw [if_neg (by omega)] at this
  exact this
theorem r3flagC (b : Bool) (w : World) : Calls Try.prog 47 #[.bool b] w fun e w' => e = .returned (.string (dskw.strN (flagB b))) ∧ Only (fun _ => False) w w' := by
  refine (codw.rflag_any b w).mono ?_
  rintro _ w' ⟨rfl, rfl⟩
  exact ⟨rfl, Only.refl _ _⟩
set_option maxRecDepth 100000 in
set_option maxHeartbeats 8000000 in
theorem rtwrite_any {S : Nat → Prop} (p : Nat) (pl last : Int) (v : Value) (L : List Sd) (w : World) (h : DT S w p pl last v L) (hok : TOk pl last (L.map Sd.sx)) :
    Calls Try.prog 22 #[.pointer (some ⟨p, 0, none⟩)] w fun e w' => e = .returned (.string (dskw.strN (tabB pl last (L.map Sd.sx)))) ∧ Only (fun _ => False) w w' := by
  have HP := Lib.hid h
  have hp1 := hok.p1
  have hla := hok.la
  have hln := hok.ln
  rw [List.length_map] at hln
  obtain ⟨av, cv, hv, hc1, hc2, hc3, hcs, hbl⟩ := own_S h.own
  have HCS := Lib.hid hcs
  obtain ⟨n, hn⟩ : ∃ x, L.length = x := ⟨_, rfl⟩
  have HN := Lib.hid hn
  have HSL : Hid (∀ w', Only (fun _ => False) w w' → w'.cell? ⟨p, 0, none⟩ = some (.int .i64 pl) ∧ w'.cell? ⟨p, 1, none⟩ = some (.int .i64 last) ∧ w'.cell? ⟨p, 2, none⟩ = some (.slice av n cv)) := Lib.hid (fun w' ho => ⟨(HP.out.quiet ho).c0, (HP.out.quiet ho).c1, by rw [(HP.out.quiet ho).c2, hv, hn]⟩)
  have HKD : Hid (∀ i, i < n → ReadsG w (L.getD i default).a (L.getD i default).n (L.getD i default).gs ∧ SIn (L.getD i default).sx) := Lib.hid (fun i hi => by
    have hm := sdt_mem (L := L) (i := i) (by rw [hn]; exact hi)
    exact ⟨(h.kd _ hm).1, SIn.of (hok.rt _ (List.mem_map_of_mem hm)).1⟩)
  have HSB : Hid (∀ i, ((L.map Sd.sx).take i |>.flatMap sB).length ≤ 3056) := Lib.hid (fun i => by
    have h1 := ss_blen ((L.map Sd.sx).take i) (fun s hs => grsB_len ((rightB_iff s).1 (hok.rt s (List.mem_of_mem_take hs)).1).2.2.2.2.2.2)
    have h2 : ((L.map Sd.sx).take i).length ≤ 16 := by rw [List.length_take, List.length_map]; omega
    omega)
  rw [hn] at hln hc1 HCS
  have HC1 : Hid (∀ w', _) := Lib.hid (fun w' => r3uintC pl w' ⟨by omega, by omega⟩)
  have HC2 : Hid (∀ w', _) := Lib.hid (fun w' => r3uintC last w' hla)
  have HC3 : Hid (∀ w', _) := Lib.hid (fun w' => r3uintC (n : Int) w' ⟨by omega, by omega⟩)
  rw [Int.toNat_natCast] at HC3
  obtain ⟨H, hH⟩ : ∃ x, enc pl.toNat ++ enc last.toNat ++ enc n = x := ⟨_, rfl⟩
  have HTB : Hid (H ++ (L.map Sd.sx).flatMap sB = tabB pl last (L.map Sd.sx)) := Lib.hid (by rw [← hH]; unfold tabB; rw [List.length_map, hn]; simp only [List.append_assoc])
  have hl1 := (enc_length pl.toNat).1
  have hl2 := (enc_length last.toNat).1
  have hl3 := (enc_length n).1
  have HHL : Hid (H.length ≤ 33) := Lib.hid (by rw [← hH]; simp only [List.length_append]; omega)
  have hs1 := sum_strC (enc pl.toNat) (enc last.toNat) (by omega) (by omega)
  have hs2 := sum_strC (enc pl.toNat ++ enc last.toNat) (enc n) (by rw [List.length_append]; omega) (by omega)
  rw [hH] at hs2
  obtain ⟨d0, d1, d2⟩ := HSL.out w (Only.refl _ _)
  clear h hok hv hcs hbl hn hH hc3 hl1 hl2 hl3
  generalize dskw.strN (enc pl.toNat ++ enc last.toNat) = T2 at *
  generalize dskw.strN (enc pl.toNat) = K1 at *
  generalize dskw.strN (enc last.toNat) = K2 at *
  generalize dskw.strN (enc n) = K3 at *
  obtain ⟨y1, f1⟩ := hs1
  obtain ⟨y2, f2⟩ := hs2
  go_enter Try.func22, Try.ntmps22
  go_upto_region 1 with fail
  clear d0 d1 d2
  refine wp_region_noPanic ?_
  refine late.region (fun w' => w'.cell? ⟨p, 0, none⟩ = some (.int .i64 pl) ∧ w'.cell? ⟨p, 1, none⟩ = some (.int .i64 last) ∧ w'.cell? ⟨p, 2, none⟩ = some (.slice av n cv)) (fun j => [].contains j) (by kernel_rfl) (HSL.out _ (Only.refl _ _).drew) (fun hHeld => ?_)
  obtain ⟨z0, hz0⟩ : ∃ x, x = w.drew := ⟨_, rfl⟩
  rw [← hz0] at hHeld ⊢
  have hot : Hid (Only (fun _ => False) w z0) := Lib.hid (by rw [hz0]; exact (Only.refl _ _).drew)
  clear hz0
  refine late.take (i := 0) [1, 2, 3, 4, 9, 10, 16, 17, 18] (v := ?_) rfl (by kernel_rfl) (by kernel_rfl) (by kernel_rfl) (by kernel_rfl) (fun _ _ _ h => h) (Or.inl ⟨by rfl, ?_⟩) (by assumption) ?_
  rotate_left 1
  · intro w' hSw
    try dsimp only at hSw
    go_simp
    try with_reducible rfl
  try simp only [List.getElem_toArray, List.getElem_cons_zero, Act.put, List.setIfInBounds_toArray, List.set_cons_zero, List.set_cons_succ]
  refine late.take (i := 1) [2, 3, 4, 9, 10, 16, 17, 18] (v := ?_) rfl (by kernel_rfl) (by kernel_rfl) (by kernel_rfl) (by kernel_rfl) (fun _ _ _ h => h) (Or.inl ⟨by rfl, ?_⟩) (by assumption) ?_
  rotate_left 1
  · intro w' hSw
    try dsimp only at hSw
    go_simp
    try with_reducible rfl
  try simp only [List.getElem_toArray, List.getElem_cons_zero, List.getElem_cons_succ, Act.put, List.setIfInBounds_toArray, List.set_cons_zero, List.set_cons_succ]
  refine late.take (i := 2) [3, 4, 9, 10, 16, 17, 18] (v := ?_) rfl (by kernel_rfl) (by kernel_rfl) (by kernel_rfl) (by kernel_rfl) (fun _ _ _ h => h) (Or.inl ⟨by rfl, ?_⟩) (by assumption) ?_
  rotate_left 1
  · intro w' hSw
    try dsimp only at hSw
    go_simp
    try with_reducible rfl
  try simp only [List.getElem_toArray, List.getElem_cons_zero, List.getElem_cons_succ, Act.put, List.setIfInBounds_toArray, List.set_cons_zero, List.set_cons_succ]
  refine late.take (i := 3) [4, 9, 10, 16, 17, 18] (v := ?_) rfl (by kernel_rfl) (by kernel_rfl) (by kernel_rfl) (by kernel_rfl) (fun _ _ _ h => h) (Or.inl ⟨by rfl, ?_⟩) (by assumption) ?_
  rotate_left 1
  · intro w' hSw
    try dsimp only at hSw
    go_simp
    try with_reducible rfl
  try simp only [List.getElem_toArray, List.getElem_cons_zero, List.getElem_cons_succ, Act.put, List.setIfInBounds_toArray, List.set_cons_zero, List.set_cons_succ]
  refine late.take (i := 5) [6, 7, 8, 9, 10, 16, 17, 18] (v := ?_) rfl (by kernel_rfl) (by kernel_rfl) (by kernel_rfl) (by kernel_rfl) (fun _ _ _ h => h) (Or.inl ⟨by rfl, ?_⟩) (by assumption) ?_
  rotate_left 1
  · intro w' hSw
    try dsimp only at hSw
    go_simp
    try with_reducible rfl
  try simp only [List.getElem_toArray, List.getElem_cons_zero, List.getElem_cons_succ, Act.put, List.setIfInBounds_toArray, List.set_cons_zero, List.set_cons_succ]
  refine late.take (i := 6) [7, 8, 9, 10, 16, 17, 18] (v := ?_) rfl (by kernel_rfl) (by kernel_rfl) (by kernel_rfl) (by kernel_rfl) (fun _ _ _ h => h) (Or.inl ⟨by rfl, ?_⟩) (by assumption) ?_
  rotate_left 1
  · intro w' hSw
    try dsimp only at hSw
    go_simp
    try with_reducible rfl
  try simp only [List.getElem_toArray, List.getElem_cons_zero, List.getElem_cons_succ, Act.put, List.setIfInBounds_toArray, List.set_cons_zero, List.set_cons_succ]
  refine late.take (i := 7) [8, 9, 10, 16, 17, 18] (v := ?_) rfl (by kernel_rfl) (by kernel_rfl) (by kernel_rfl) (by kernel_rfl) (fun _ _ _ h => h) (Or.inl ⟨by rfl, ?_⟩) (by assumption) ?_
  rotate_left 1
  · intro w' hSw
    try dsimp only at hSw
    go_simp
    try with_reducible rfl
  try simp only [List.getElem_toArray, List.getElem_cons_zero, List.getElem_cons_succ, Act.put, List.setIfInBounds_toArray, List.set_cons_zero, List.set_cons_succ]
  refine late.take (i := 8) [9, 10, 16, 17, 18] (v := ?_) rfl (by kernel_rfl) (by kernel_rfl) (by kernel_rfl) (by kernel_rfl) (fun _ _ _ h => h) (Or.inl ⟨by rfl, ?_⟩) (by assumption) ?_
  rotate_left 1
  · intro w' hSw
    try dsimp only at hSw
    go_simp
    try with_reducible rfl
  try simp only [List.getElem_toArray, List.getElem_cons_zero, List.getElem_cons_succ, Act.put, List.setIfInBounds_toArray, List.set_cons_zero, List.set_cons_succ]
  refine late.take (i := 11) [12, 13, 14, 15, 16, 17, 18] (v := ?_) rfl (by kernel_rfl) (by kernel_rfl) (by kernel_rfl) (by kernel_rfl) (fun _ _ _ h => h) (Or.inl ⟨by rfl, ?_⟩) (by assumption) ?_
  rotate_left 1
  · intro w' hSw
    try dsimp only at hSw
    go_simp
    try with_reducible rfl
  try simp only [List.getElem_toArray, List.getElem_cons_zero, List.getElem_cons_succ, Act.put, List.setIfInBounds_toArray, List.set_cons_zero, List.set_cons_succ]
  refine late.take (i := 12) [13, 14, 15, 16, 17, 18] (v := ?_) rfl (by kernel_rfl) (by kernel_rfl) (by kernel_rfl) (by kernel_rfl) (fun _ _ _ h => h) (Or.inl ⟨by rfl, ?_⟩) (by assumption) ?_
  rotate_left 1
  · intro w' hSw
    try dsimp only at hSw
    go_simp
    try with_reducible rfl
  try simp only [List.getElem_toArray, List.getElem_cons_zero, List.getElem_cons_succ, Act.put, List.setIfInBounds_toArray, List.set_cons_zero, List.set_cons_succ]
  refine late.take (i := 13) [14, 15, 16, 17, 18] (v := ?_) rfl (by kernel_rfl) (by kernel_rfl) (by kernel_rfl) (by kernel_rfl) (fun _ _ _ h => h) (Or.inl ⟨by rfl, ?_⟩) (by assumption) ?_
  rotate_left 1
  · intro w' hSw
    try dsimp only at hSw
    go_simp
    try with_reducible rfl
  try simp only [List.getElem_toArray, List.getElem_cons_zero, List.getElem_cons_succ, Act.put, List.setIfInBounds_toArray, List.set_cons_zero, List.set_cons_succ]
  refine late.take (i := 14) [15, 16, 17, 18] (v := ?_) rfl (by kernel_rfl) (by kernel_rfl) (by kernel_rfl) (by kernel_rfl) (fun _ _ _ h => h) (Or.inl ⟨by rfl, ?_⟩) (by assumption) ?_
  rotate_left 1
  · intro w' hSw
    try dsimp only at hSw
    go_simp
    try with_reducible rfl
  try simp only [List.getElem_toArray, List.getElem_cons_zero, List.getElem_cons_succ, Act.put, List.setIfInBounds_toArray, List.set_cons_zero, List.set_cons_succ]
  refine late.take (i := 15) [16, 17, 18] (v := ?_) rfl (by kernel_rfl) (by kernel_rfl) (by kernel_rfl) (by kernel_rfl) (fun _ _ _ h => h) (Or.inl ⟨by rfl, ?_⟩) (by assumption) ?_
  rotate_left 1
  · intro w' hSw
    try dsimp only at hSw
    go_simp
    try with_reducible rfl
  try simp only [List.getElem_toArray, List.getElem_cons_zero, List.getElem_cons_succ, Act.put, List.setIfInBounds_toArray, List.set_cons_zero, List.set_cons_succ]
  refine late.ready (rs := [4]) (by kernel_rfl) (by simp) ?_
  refine late.Each.cons rfl (fun K hK => ?_) late.Each.nil
  try simp only [List.getElem_toArray, List.getElem_cons_zero, List.getElem_cons_succ]
  go_simp
  go_at_call 46
  with_reducible refine (HC1.out _).mono ?_
  rintro _ W1 ⟨rfl, ho⟩
  replace hot := Lib.hid (hot.out.trans ho)
  clear ho
  try dsimp only
  refine hK.out _ _ (fun _ => HSL.out _ hot.out) (fun hHeld1 => ?_)
  replace hHeld1 := hHeld1 rfl
  clear hK K
  try simp only [List.getElem_toArray, List.getElem_cons_zero, List.getElem_cons_succ, Act.put, List.setIfInBounds_toArray, List.set_cons_zero, List.set_cons_succ]
  refine late.ready (rs := [9]) (by kernel_rfl) (by simp) ?_
  refine late.Each.cons rfl (fun K hK => ?_) late.Each.nil
  try simp only [List.getElem_toArray, List.getElem_cons_zero, List.getElem_cons_succ]
  go_simp
  go_at_call 46
  with_reducible refine (HC2.out _).mono ?_
  rintro _ W2 ⟨rfl, ho⟩
  replace hot := Lib.hid (hot.out.trans ho)
  clear ho
  try dsimp only
  refine hK.out _ _ (fun _ => HSL.out _ hot.out) (fun hHeld2 => ?_)
  replace hHeld2 := hHeld2 rfl
  clear hK K
  try simp only [List.getElem_toArray, List.getElem_cons_zero, List.getElem_cons_succ, Act.put, List.setIfInBounds_toArray, List.set_cons_zero, List.set_cons_succ]
  refine late.take (i := 10) [17, 18] (v := ?_) rfl (by kernel_rfl) (by kernel_rfl) (by kernel_rfl) (by kernel_rfl) (fun _ _ _ h => h) (Or.inl ⟨by rfl, ?_⟩) (by assumption) ?_
  rotate_left 1
  · intro w' hSw
    try dsimp only at hSw
    go_simp
    try with_reducible rfl
  try simp only [List.getElem_toArray, List.getElem_cons_zero, List.getElem_cons_succ, Act.put, List.setIfInBounds_toArray, List.set_cons_zero, List.set_cons_succ]
  refine late.ready (rs := [16]) (by kernel_rfl) (by simp) ?_
  refine late.Each.cons rfl (fun K hK => ?_) late.Each.nil
  try simp only [List.getElem_toArray, List.getElem_cons_zero, List.getElem_cons_succ]
  go_simp
  go_at_call 46
  with_reducible refine (HC3.out _).mono ?_
  rintro _ W3 ⟨rfl, ho⟩
  replace hot := Lib.hid (hot.out.trans ho)
  clear ho
  try dsimp only
  refine hK.out _ _ (fun _ => HSL.out _ hot.out) (fun hHeld3 => ?_)
  replace hHeld3 := hHeld3 rfl
  clear hK K
  try simp only [List.getElem_toArray, List.getElem_cons_zero, List.getElem_cons_succ, Act.put, List.setIfInBounds_toArray, List.set_cons_zero, List.set_cons_succ]
  refine late.take (i := 17) [18] (v := ?_) rfl (by kernel_rfl) (by kernel_rfl) (by kernel_rfl) (by kernel_rfl) (fun _ _ _ h => h) (Or.inl ⟨by rfl, ?_⟩) (by assumption) ?_
  rotate_left 1
  · intro w' hSw
    try dsimp only at hSw
    go_simp
    try with_reducible rfl
  try simp only [List.getElem_toArray, List.getElem_cons_zero, List.getElem_cons_succ, Act.put, List.setIfInBounds_toArray, List.set_cons_zero, List.set_cons_succ]
  refine late.take (i := 18) [] (v := ?_) rfl (by kernel_rfl) (by kernel_rfl) (by kernel_rfl) (by kernel_rfl) (fun _ _ _ h => h) (Or.inl ⟨by rfl, ?_⟩) (by assumption) ?_
  rotate_left 1
  · intro w' hSw
    try dsimp only at hSw
    go_simp
    try with_reducible rfl
  try simp only [List.getElem_toArray, List.getElem_cons_zero, List.getElem_cons_succ, Act.put, List.setIfInBounds_toArray, List.set_cons_zero, List.set_cons_succ]
  refine late.done (by kernel_rfl) ?_ _
  refine NoPanic.normal ?_
  have HO2 := Lib.hid hot.out
  clear hHeld hot HC1 HC2 HC3 f1 f2 y1 y2
  rename World => w2
  go_wp2_with fail
  go_loopw [3, 4] (fun sv iv wr => ∃ (i : Nat), i ≤ n ∧ iv = .int .i64 (i : Int) ∧ sv = .string (dskw.strN (H ++ ((L.map Sd.sx).take i).flatMap sB)) ∧ Hid (Only (fun _ => False) w wr)) (fun _ iv _ => n - (intOf iv).toNat)
  case atStart => exact ⟨0, by omega, rfl, by simp, HO2⟩
  case round =>
    obtain ⟨i, hi, rfl, rfl, HO⟩ := hrel
    clear HO2
    rename World => wr
    obtain ⟨d0, d1, d2⟩ := HSL.out wr HO.out
    by_cases h8 : i < n
    · obtain ⟨b, rfl, hcell⟩ := HCS.out.resolve_left (by omega)
      obtain ⟨c0, c1, c2, c3, c4⟩ := hcell i h8
      replace c0 := HO.out.cell' c0 (fun f => f)
      replace c1 := HO.out.cell' c1 (fun f => f)
      replace c2 := HO.out.cell' c2 (fun f => f)
      replace c3 := HO.out.cell' c3 (fun f => f)
      replace c4 := HO.out.cell' c4 (fun f => f)
      have hin : (i : Int) < n := by omega
      have hi0 : (0 : Int) ≤ i := by omega
      have hi64 : (i : Int) ≤ 64 := by omega
      obtain ⟨hrg, hsi⟩ := HKD.out i h8
      have HSN : Hid (H ++ ((L.map Sd.sx).take i).flatMap sB ++ sB (L.getD i default).sx = H ++ ((L.map Sd.sx).take (i + 1)).flatMap sB) := Lib.hid (by
        rw [ss_snoc _ i (by rw [List.length_map, HN.out]; exact h8), sx_get L (by rw [HN.out]; exact h8), List.append_assoc])
      have hpl : (H ++ ((L.map Sd.sx).take i).flatMap sB).length ≤ 10000 := by
        rw [List.length_append]
        have h1 := HSB.out i
        have h2 := HHL.out
        omega
      generalize L.getD i default = x at *
      obtain ⟨xi, xnd, xnum, xdl, xa, xn, xc, xgs⟩ := x
      rw [show Sd.sx ⟨xi, xnd, xnum, xdl, xa, xn, xc, xgs⟩ = (⟨xi, xnd, xnum, xdl, xgs⟩ : Sx) from rfl] at hsi HSN
      dsimp only at c0 c1 c2 c3 c4 hrg
      obtain ⟨m1, m2, m3, m4, m5, m6⟩ := hsi
      dsimp only at m1 m2 m3 m4 m5 m6
      have HGI := Lib.hid m6
      have HRG := Lib.hid hrg
      have HNG : Hid (xgs.length = xn) := Lib.hid hrg.1
      have hxn : xn ≤ 4 := by rw [← hrg.1]; exact m5
      have HD1 : Hid (∀ w', _) := Lib.hid (fun w' => r3uintC xi w' m1)
      have HD2 : Hid (∀ w', _) := Lib.hid (fun w' => r3uintC xnd w' m2)
      have HD3 : Hid (∀ w', _) := Lib.hid (fun w' => r3uintC xnum w' m3)
      have HD4 : Hid (∀ w', _) := Lib.hid (fun w' => r3uintC xdl w' m4)
      have HD5 : Hid (∀ w', _) := Lib.hid (fun w' => r3uintC (xn : Int) w' ⟨by omega, by omega⟩)
      rw [Int.toNat_natCast] at HD5
      obtain ⟨l0, hl0⟩ : ∃ x, H ++ ((L.map Sd.sx).take i).flatMap sB = x := ⟨_, rfl⟩
      rw [hl0] at hpl HSN ⊢
      have hl1 := (enc_length xi.toNat).1
      have hl2 := (enc_length xnd.toNat).1
      have hl3 := (enc_length xnum.toNat).1
      have hl4 := (enc_length xdl.toNat).1
      have hl5 := (enc_length xn).1
      have hs1 := sum_strC l0 (enc xi.toNat) (by omega) (by omega)
      have hs2 := sum_strC (l0 ++ enc xi.toNat) (enc xnd.toNat) (by simp only [List.length_append]; omega) (by omega)
      have hs3 := sum_strC (l0 ++ enc xi.toNat ++ enc xnd.toNat) (enc xnum.toNat) (by simp only [List.length_append]; omega) (by omega)
      have hs4 := sum_strC (l0 ++ enc xi.toNat ++ enc xnd.toNat ++ enc xnum.toNat) (enc xdl.toNat) (by simp only [List.length_append]; omega) (by omega)
      have hs5 := sum_strC (l0 ++ enc xi.toNat ++ enc xnd.toNat ++ enc xnum.toNat ++ enc xdl.toNat) (enc xn) (by simp only [List.length_append]; omega) (by omega)
      obtain ⟨l5, hl50⟩ : ∃ x, l0 ++ enc xi.toNat ++ enc xnd.toNat ++ enc xnum.toNat ++ enc xdl.toNat ++ enc xn = x := ⟨_, rfl⟩
      rw [hl50] at hs5
      have HL5 : Hid (l5.length ≤ 10055 ∧ l5 ++ xgs.flatMap gB = H ++ ((L.map Sd.sx).take (i + 1)).flatMap sB) := Lib.hid (by
        refine ⟨by rw [← hl50]; simp only [List.length_append]; omega, ?_⟩
        rw [← HSN.out, ← hl50]
        unfold sB
        rw [HNG.out]
        simp only [List.append_assoc])
      clear hcell hrg hl0 hl50 hl1 hl2 hl3 hl4 hl5 hpl HSN m1 m2 m3 m4 m5 m6
      go_upto_region 6 with fail
      obtain ⟨w5, hw5⟩ : ∃ x, x = wr.alloc (.cells #[.int .i64 xi, .int .i64 xnd, .int .i64 xnum, .int .i64 xdl, .slice xa xn xc] 50) := ⟨_, rfl⟩
      obtain ⟨g5, hg5⟩ : ∃ x, x = wr.heap.size := ⟨_, rfl⟩
      obtain ⟨q0, q1, q2, q3, q4, ho5⟩ := sbox hw5 hg5
      simp only [← hw5, ← hg5]
      have HO5 : Hid (Only (fun _ => False) w w5) := Lib.hid (HO.out.trans ho5)
      have HS5 : Hid (∀ w', Only (fun _ => False) w5 w' → w'.cell? ⟨g5, 0, none⟩ = some (.int .i64 xi) ∧ w'.cell? ⟨g5, 1, none⟩ = some (.int .i64 xnd) ∧ w'.cell? ⟨g5, 2, none⟩ = some (.int .i64 xnum) ∧ w'.cell? ⟨g5, 3, none⟩ = some (.int .i64 xdl) ∧ w'.cell? ⟨g5, 4, none⟩ = some (.slice xa xn xc)) := Lib.hid (fun w' ho => ⟨ho.cell' q0 (fun f => f), ho.cell' q1 (fun f => f), ho.cell' q2 (fun f => f), ho.cell' q3 (fun f => f), ho.cell' q4 (fun f => f)⟩)
      clear hw5 hg5 q0 q1 q2 q3 q4 ho5 c0 c1 c2 c3 c4 d0 d1 d2
      generalize hS0 : dskw.strN l0 = S0 at *
      clear hS0
      generalize dskw.strN (l0 ++ enc xi.toNat) = S1 at *
      generalize dskw.strN (l0 ++ enc xi.toNat ++ enc xnd.toNat) = S2 at *
      generalize dskw.strN (l0 ++ enc xi.toNat ++ enc xnd.toNat ++ enc xnum.toNat) = S3 at *
      generalize dskw.strN (l0 ++ enc xi.toNat ++ enc xnd.toNat ++ enc xnum.toNat ++ enc xdl.toNat) = S4 at *
      generalize dskw.strN (enc xi.toNat) = E1 at *
      generalize dskw.strN (enc xnd.toNat) = E2 at *
      generalize dskw.strN (enc xnum.toNat) = E3 at *
      generalize dskw.strN (enc xdl.toNat) = E4 at *
      generalize dskw.strN (enc xn) = E5 at *
      obtain ⟨T5, hT5⟩ : ∃ x, dskw.strN l5 = x := ⟨_, rfl⟩
      rw [hT5] at hs5
      have HT5 := Lib.hid hT5
      clear hT5
      obtain ⟨y1, f1⟩ := hs1
      obtain ⟨y2, f2⟩ := hs2
      obtain ⟨y3, f3⟩ := hs3
      obtain ⟨y4, f4⟩ := hs4
      obtain ⟨y5, f5⟩ := hs5
      refine wp_region_noPanic ?_
      refine late.region (fun w' => w'.cell? ⟨g5, 0, none⟩ = some (.int .i64 xi) ∧ w'.cell? ⟨g5, 1, none⟩ = some (.int .i64 xnd) ∧ w'.cell? ⟨g5, 2, none⟩ = some (.int .i64 xnum) ∧ w'.cell? ⟨g5, 3, none⟩ = some (.int .i64 xdl) ∧ w'.cell? ⟨g5, 4, none⟩ = some (.slice xa xn xc)) (fun j => [].contains j) (by kernel_rfl) (HS5.out _ (Only.refl _ _).drew) (fun hHeld => ?_)
      obtain ⟨z0, hz0⟩ : ∃ x, x = w5.drew := ⟨_, rfl⟩
      rw [← hz0] at hHeld ⊢
      have hot : Hid (Only (fun _ => False) w5 z0) := Lib.hid (by rw [hz0]; exact (Only.refl _ _).drew)
      clear hz0
      refine late.take (i := 0) [4, 8, 12, 16, 21, 22] (v := ?_) rfl (by kernel_rfl) (by kernel_rfl) (by kernel_rfl) (by kernel_rfl) (fun _ _ _ h => h) (Or.inl ⟨by rfl, ?_⟩) (by assumption) ?_
      rotate_left 1
      · intro w' hSw
        try dsimp only at hSw
        go_simp
        try with_reducible rfl
      try simp only [List.getElem_toArray, List.getElem_cons_zero, Act.put, List.setIfInBounds_toArray, List.set_cons_zero, List.set_cons_succ]
      refine late.take (i := 1) [2, 3, 4, 7, 8, 11, 12, 15, 16, 20, 21, 22] (v := ?_) rfl (by kernel_rfl) (by kernel_rfl) (by kernel_rfl) (by kernel_rfl) (fun _ _ _ h => h) (Or.inl ⟨by rfl, ?_⟩) (by assumption) ?_
      rotate_left 1
      · intro w' hSw
        try dsimp only at hSw
        go_simp
        try with_reducible rfl
      try simp only [List.getElem_toArray, List.getElem_cons_zero, List.getElem_cons_succ, Act.put, List.setIfInBounds_toArray, List.set_cons_zero, List.set_cons_succ]
      refine late.take (i := 2) [3, 4, 7, 8, 11, 12, 15, 16, 20, 21, 22] (v := ?_) rfl (by kernel_rfl) (by kernel_rfl) (by kernel_rfl) (by kernel_rfl) (fun _ _ _ h => h) (Or.inl ⟨by rfl, ?_⟩) (by assumption) ?_
      rotate_left 1
      · intro w' hSw
        try dsimp only at hSw
        go_simp
        try with_reducible rfl
      try simp only [List.getElem_toArray, List.getElem_cons_zero, List.getElem_cons_succ, Act.put, List.setIfInBounds_toArray, List.set_cons_zero, List.set_cons_succ]
      refine late.take (i := 5) [6, 7, 8, 11, 12, 15, 16, 20, 21, 22] (v := ?_) rfl (by kernel_rfl) (by kernel_rfl) (by kernel_rfl) (by kernel_rfl) (fun _ _ _ h => h) (Or.inl ⟨by rfl, ?_⟩) (by assumption) ?_
      rotate_left 1
      · intro w' hSw
        try dsimp only at hSw
        go_simp
        try with_reducible rfl
      try simp only [List.getElem_toArray, List.getElem_cons_zero, List.getElem_cons_succ, Act.put, List.setIfInBounds_toArray, List.set_cons_zero, List.set_cons_succ]
      refine late.take (i := 6) [7, 8, 11, 12, 15, 16, 20, 21, 22] (v := ?_) rfl (by kernel_rfl) (by kernel_rfl) (by kernel_rfl) (by kernel_rfl) (fun _ _ _ h => h) (Or.inl ⟨by rfl, ?_⟩) (by assumption) ?_
      rotate_left 1
      · intro w' hSw
        try dsimp only at hSw
        go_simp
        try with_reducible rfl
      try simp only [List.getElem_toArray, List.getElem_cons_zero, List.getElem_cons_succ, Act.put, List.setIfInBounds_toArray, List.set_cons_zero, List.set_cons_succ]
      refine late.take (i := 9) [10, 11, 12, 15, 16, 20, 21, 22] (v := ?_) rfl (by kernel_rfl) (by kernel_rfl) (by kernel_rfl) (by kernel_rfl) (fun _ _ _ h => h) (Or.inl ⟨by rfl, ?_⟩) (by assumption) ?_
      rotate_left 1
      · intro w' hSw
        try dsimp only at hSw
        go_simp
        try with_reducible rfl
      try simp only [List.getElem_toArray, List.getElem_cons_zero, List.getElem_cons_succ, Act.put, List.setIfInBounds_toArray, List.set_cons_zero, List.set_cons_succ]
      refine late.take (i := 10) [11, 12, 15, 16, 20, 21, 22] (v := ?_) rfl (by kernel_rfl) (by kernel_rfl) (by kernel_rfl) (by kernel_rfl) (fun _ _ _ h => h) (Or.inl ⟨by rfl, ?_⟩) (by assumption) ?_
      rotate_left 1
      · intro w' hSw
        try dsimp only at hSw
        go_simp
        try with_reducible rfl
      try simp only [List.getElem_toArray, List.getElem_cons_zero, List.getElem_cons_succ, Act.put, List.setIfInBounds_toArray, List.set_cons_zero, List.set_cons_succ]
      refine late.take (i := 13) [14, 15, 16, 20, 21, 22] (v := ?_) rfl (by kernel_rfl) (by kernel_rfl) (by kernel_rfl) (by kernel_rfl) (fun _ _ _ h => h) (Or.inl ⟨by rfl, ?_⟩) (by assumption) ?_
      rotate_left 1
      · intro w' hSw
        try dsimp only at hSw
        go_simp
        try with_reducible rfl
      try simp only [List.getElem_toArray, List.getElem_cons_zero, List.getElem_cons_succ, Act.put, List.setIfInBounds_toArray, List.set_cons_zero, List.set_cons_succ]
      refine late.take (i := 14) [15, 16, 20, 21, 22] (v := ?_) rfl (by kernel_rfl) (by kernel_rfl) (by kernel_rfl) (by kernel_rfl) (fun _ _ _ h => h) (Or.inl ⟨by rfl, ?_⟩) (by assumption) ?_
      rotate_left 1
      · intro w' hSw
        try dsimp only at hSw
        go_simp
        try with_reducible rfl
      try simp only [List.getElem_toArray, List.getElem_cons_zero, List.getElem_cons_succ, Act.put, List.setIfInBounds_toArray, List.set_cons_zero, List.set_cons_succ]
      refine late.take (i := 17) [18, 19, 20, 21, 22] (v := ?_) rfl (by kernel_rfl) (by kernel_rfl) (by kernel_rfl) (by kernel_rfl) (fun _ _ _ h => h) (Or.inl ⟨by rfl, ?_⟩) (by assumption) ?_
      rotate_left 1
      · intro w' hSw
        try dsimp only at hSw
        go_simp
        try with_reducible rfl
      try simp only [List.getElem_toArray, List.getElem_cons_zero, List.getElem_cons_succ, Act.put, List.setIfInBounds_toArray, List.set_cons_zero, List.set_cons_succ]
      refine late.take (i := 18) [19, 20, 21, 22] (v := ?_) rfl (by kernel_rfl) (by kernel_rfl) (by kernel_rfl) (by kernel_rfl) (fun _ _ _ h => h) (Or.inl ⟨by rfl, ?_⟩) (by assumption) ?_
      rotate_left 1
      · intro w' hSw
        try dsimp only at hSw
        go_simp
        try with_reducible rfl
      try simp only [List.getElem_toArray, List.getElem_cons_zero, List.getElem_cons_succ, Act.put, List.setIfInBounds_toArray, List.set_cons_zero, List.set_cons_succ]
      refine late.take (i := 19) [20, 21, 22] (v := ?_) rfl (by kernel_rfl) (by kernel_rfl) (by kernel_rfl) (by kernel_rfl) (fun _ _ _ h => h) (Or.inl ⟨by rfl, ?_⟩) (by assumption) ?_
      rotate_left 1
      · intro w' hSw
        try dsimp only at hSw
        go_simp
        try with_reducible rfl
      try simp only [List.getElem_toArray, List.getElem_cons_zero, List.getElem_cons_succ, Act.put, List.setIfInBounds_toArray, List.set_cons_zero, List.set_cons_succ]
      refine late.ready (rs := [3]) (by kernel_rfl) (by simp) ?_
      refine late.Each.cons rfl (fun K hK => ?_) late.Each.nil
      try simp only [List.getElem_toArray, List.getElem_cons_zero, List.getElem_cons_succ]
      go_simp
      go_at_call 46
      with_reducible refine (HD1.out _).mono ?_
      rintro _ W1 ⟨rfl, ho⟩
      replace hot := Lib.hid (hot.out.trans ho)
      clear ho
      try dsimp only
      refine hK.out _ _ (fun _ => HS5.out _ hot.out) (fun hHeld1 => ?_)
      replace hHeld1 := hHeld1 rfl
      clear hK K
      try simp only [List.getElem_toArray, List.getElem_cons_zero, List.getElem_cons_succ, Act.put, List.setIfInBounds_toArray, List.set_cons_zero, List.set_cons_succ]
      refine late.take (i := 4) [8, 12, 16, 21, 22] (v := ?_) rfl (by kernel_rfl) (by kernel_rfl) (by kernel_rfl) (by kernel_rfl) (fun _ _ _ h => h) (Or.inl ⟨by rfl, ?_⟩) (by assumption) ?_
      rotate_left 1
      · intro w' hSw
        try dsimp only at hSw
        go_simp
        try with_reducible rfl
      try simp only [List.getElem_toArray, List.getElem_cons_zero, List.getElem_cons_succ, Act.put, List.setIfInBounds_toArray, List.set_cons_zero, List.set_cons_succ]
      refine late.ready (rs := [7]) (by kernel_rfl) (by simp) ?_
      refine late.Each.cons rfl (fun K hK => ?_) late.Each.nil
      try simp only [List.getElem_toArray, List.getElem_cons_zero, List.getElem_cons_succ]
      go_simp
      go_at_call 46
      with_reducible refine (HD2.out _).mono ?_
      rintro _ W2 ⟨rfl, ho⟩
      replace hot := Lib.hid (hot.out.trans ho)
      clear ho
      try dsimp only
      refine hK.out _ _ (fun _ => HS5.out _ hot.out) (fun hHeld2 => ?_)
      replace hHeld2 := hHeld2 rfl
      clear hK K
      try simp only [List.getElem_toArray, List.getElem_cons_zero, List.getElem_cons_succ, Act.put, List.setIfInBounds_toArray, List.set_cons_zero, List.set_cons_succ]
      refine late.take (i := 8) [12, 16, 21, 22] (v := ?_) rfl (by kernel_rfl) (by kernel_rfl) (by kernel_rfl) (by kernel_rfl) (fun _ _ _ h => h) (Or.inl ⟨by rfl, ?_⟩) (by assumption) ?_
      rotate_left 1
      · intro w' hSw
        try dsimp only at hSw
        go_simp
        try with_reducible rfl
      try simp only [List.getElem_toArray, List.getElem_cons_zero, List.getElem_cons_succ, Act.put, List.setIfInBounds_toArray, List.set_cons_zero, List.set_cons_succ]
      refine late.ready (rs := [11]) (by kernel_rfl) (by simp) ?_
      refine late.Each.cons rfl (fun K hK => ?_) late.Each.nil
      try simp only [List.getElem_toArray, List.getElem_cons_zero, List.getElem_cons_succ]
      go_simp
      go_at_call 46
      with_reducible refine (HD3.out _).mono ?_
      rintro _ W3 ⟨rfl, ho⟩
      replace hot := Lib.hid (hot.out.trans ho)
      clear ho
      try dsimp only
      refine hK.out _ _ (fun _ => HS5.out _ hot.out) (fun hHeld3 => ?_)
      replace hHeld3 := hHeld3 rfl
      clear hK K
      try simp only [List.getElem_toArray, List.getElem_cons_zero, List.getElem_cons_succ, Act.put, List.setIfInBounds_toArray, List.set_cons_zero, List.set_cons_succ]
      refine late.take (i := 12) [16, 21, 22] (v := ?_) rfl (by kernel_rfl) (by kernel_rfl) (by kernel_rfl) (by kernel_rfl) (fun _ _ _ h => h) (Or.inl ⟨by rfl, ?_⟩) (by assumption) ?_
      rotate_left 1
      · intro w' hSw
        try dsimp only at hSw
        go_simp
        try with_reducible rfl
      try simp only [List.getElem_toArray, List.getElem_cons_zero, List.getElem_cons_succ, Act.put, List.setIfInBounds_toArray, List.set_cons_zero, List.set_cons_succ]
      refine late.ready (rs := [15]) (by kernel_rfl) (by simp) ?_
      refine late.Each.cons rfl (fun K hK => ?_) late.Each.nil
      try simp only [List.getElem_toArray, List.getElem_cons_zero, List.getElem_cons_succ]
      go_simp
      go_at_call 46
      with_reducible refine (HD4.out _).mono ?_
      rintro _ W4 ⟨rfl, ho⟩
      replace hot := Lib.hid (hot.out.trans ho)
      clear ho
      try dsimp only
      refine hK.out _ _ (fun _ => HS5.out _ hot.out) (fun hHeld4 => ?_)
      replace hHeld4 := hHeld4 rfl
      clear hK K
      try simp only [List.getElem_toArray, List.getElem_cons_zero, List.getElem_cons_succ, Act.put, List.setIfInBounds_toArray, List.set_cons_zero, List.set_cons_succ]
      refine late.take (i := 16) [21, 22] (v := ?_) rfl (by kernel_rfl) (by kernel_rfl) (by kernel_rfl) (by kernel_rfl) (fun _ _ _ h => h) (Or.inl ⟨by rfl, ?_⟩) (by assumption) ?_
      rotate_left 1
      · intro w' hSw
        try dsimp only at hSw
        go_simp
        try with_reducible rfl
      try simp only [List.getElem_toArray, List.getElem_cons_zero, List.getElem_cons_succ, Act.put, List.setIfInBounds_toArray, List.set_cons_zero, List.set_cons_succ]
      refine late.ready (rs := [20]) (by kernel_rfl) (by simp) ?_
      refine late.Each.cons rfl (fun K hK => ?_) late.Each.nil
      try simp only [List.getElem_toArray, List.getElem_cons_zero, List.getElem_cons_succ]
      go_simp
      go_at_call 46
      with_reducible refine (HD5.out _).mono ?_
      rintro _ W5 ⟨rfl, ho⟩
      replace hot := Lib.hid (hot.out.trans ho)
      clear ho
      try dsimp only
      refine hK.out _ _ (fun _ => HS5.out _ hot.out) (fun hHeld5 => ?_)
      replace hHeld5 := hHeld5 rfl
      clear hK K
      try simp only [List.getElem_toArray, List.getElem_cons_zero, List.getElem_cons_succ, Act.put, List.setIfInBounds_toArray, List.set_cons_zero, List.set_cons_succ]
      refine late.take (i := 21) [22] (v := ?_) rfl (by kernel_rfl) (by kernel_rfl) (by kernel_rfl) (by kernel_rfl) (fun _ _ _ h => h) (Or.inl ⟨by rfl, ?_⟩) (by assumption) ?_
      rotate_left 1
      · intro w' hSw
        try dsimp only at hSw
        go_simp
        try with_reducible rfl
      try simp only [List.getElem_toArray, List.getElem_cons_zero, List.getElem_cons_succ, Act.put, List.setIfInBounds_toArray, List.set_cons_zero, List.set_cons_succ]
      refine late.take (i := 22) [] (v := ?_) rfl (by kernel_rfl) (by kernel_rfl) (by kernel_rfl) (by kernel_rfl) (fun _ _ _ h => h) (Or.inl ⟨by rfl, ?_⟩) (by assumption) ?_
      rotate_left 1
      · intro w' hSw
        try dsimp only at hSw
        go_simp
        try with_reducible rfl
      try simp only [List.getElem_toArray, List.getElem_cons_zero, List.getElem_cons_succ, Act.put, List.setIfInBounds_toArray, List.set_cons_zero, List.set_cons_succ]
      refine late.done (by kernel_rfl) ?_ _
      refine NoPanic.normal ?_
      have HO6 := Lib.hid (HO5.out.trans hot.out)
      have hot5 := hot
      clear hHeld hot HD1 HD2 HD3 HD4 HD5 y1 y2 y3 y4 y5 f1 f2 f3 f4 f5
      rename World => w6
      go_wp2_with fail
      go_loopw [3, 6] (fun sv iv wr => ∃ (k : Nat), k ≤ xn ∧ iv = .int .i64 (k : Int) ∧ sv = .string (dskw.strN (l5 ++ (xgs.take k).flatMap gB)) ∧ Hid (Only (fun _ => False) w5 wr)) (fun _ iv _ => xn - (intOf iv).toNat)
      case atStart => exact ⟨0, by omega, rfl, by rw [← HT5.out]; simp, hot5⟩
      case round =>
        clear HO6 hot5
        obtain ⟨k, hk, rfl, rfl, HO7⟩ := hrel
        rename World => wr
        obtain ⟨q0, q1, q2, q3, q4⟩ := HS5.out wr HO7.out
        by_cases h9 : k < xn
        · obtain ⟨gb, off, rfl, hcell⟩ := HRG.out.cells (by omega)
          obtain ⟨c0, c1, c2, c3⟩ := hcell k h9
          replace c0 := HO7.out.cell' (HO5.out.cell' c0 (fun f => f)) (fun f => f)
          replace c1 := HO7.out.cell' (HO5.out.cell' c1 (fun f => f)) (fun f => f)
          replace c2 := HO7.out.cell' (HO5.out.cell' c2 (fun f => f)) (fun f => f)
          replace c3 := HO7.out.cell' (HO5.out.cell' c3 (fun f => f)) (fun f => f)
          have hkn : (k : Int) < xn := by omega
          have hk0 : (0 : Int) ≤ k := by omega
          have hk64 : (k : Int) ≤ 64 := by omega
          have hx : GIn (xgs.getD k default) := HGI.out _ (getGr_mem (by rw [HNG.out]; exact h9))
          have HGS : Hid (l5 ++ (xgs.take k).flatMap gB ++ gB (xgs.getD k default) = l5 ++ (xgs.take (k + 1)).flatMap gB) := Lib.hid (by
            rw [gs_snoc xgs k (by rw [HNG.out]; exact h9), ← List.append_assoc])
          have hpl : (l5 ++ (xgs.take k).flatMap gB).length ≤ 11000 := by
            have h1 := gs_blen (xgs.take k)
            have h2 : (xgs.take k).length ≤ 4 := by rw [List.length_take]; omega
            have h4 := HL5.out.1
            rw [List.length_append]
            omega
          generalize xgs.getD k default = y at *
          obtain ⟨yg, yu, ya, yf⟩ := y
          obtain ⟨m1, m2, m3⟩ := hx
          dsimp only at c0 c1 c2 c3 m1 m2 m3
          have HE1 : Hid (∀ w', _) := Lib.hid (fun w' => r3uintC yg w' m1)
          have HE2 : Hid (∀ w', _) := Lib.hid (fun w' => r3uintC yu w' m2)
          have HE3 : Hid (∀ w', _) := Lib.hid (fun w' => r3uintC ya w' m3)
          have HE4 : Hid (∀ w', _) := Lib.hid (fun w' => r3flagC yf w')
          obtain ⟨l0, hl0⟩ : ∃ x, l5 ++ (xgs.take k).flatMap gB = x := ⟨_, rfl⟩
          rw [hl0] at hpl HGS ⊢
          have hl1 := (enc_length yg.toNat).1
          have hl2 := (enc_length yu.toNat).1
          have hl3 := (enc_length ya.toNat).1
          have hl4 : (flagB yf).length = 1 := by cases yf <;> rfl
          have hs1 := sum_strC l0 (enc yg.toNat) (by omega) (by omega)
          have hs2 := sum_strC (l0 ++ enc yg.toNat) (enc yu.toNat) (by simp only [List.length_append]; omega) (by omega)
          have hs3 := sum_strC (l0 ++ enc yg.toNat ++ enc yu.toNat) (enc ya.toNat) (by simp only [List.length_append]; omega) (by omega)
          have hs4 := sum_strC (l0 ++ enc yg.toNat ++ enc yu.toNat ++ enc ya.toNat) (flagB yf) (by simp only [List.length_append]; omega) (by omega)
          have hl40 : l0 ++ enc yg.toNat ++ enc yu.toNat ++ enc ya.toNat ++ flagB yf = l5 ++ (xgs.take (k + 1)).flatMap gB := by
            rw [← HGS.out]
            unfold gB
            simp only [List.append_assoc]
          rw [hl40] at hs4
          clear hcell hl0 hl40 hl1 hl2 hl3 hl4 hpl HGS m1 m2 m3
          go_upto_region 11 with fail
          obtain ⟨w7, hw7⟩ : ∃ x, x = wr.alloc (.cells #[.int .i64 yg, .int .i64 yu, .int .i64 ya, .bool yf] 92) := ⟨_, rfl⟩
          obtain ⟨g7, hg7⟩ : ∃ x, x = wr.heap.size := ⟨_, rfl⟩
          obtain ⟨p0, p1, p2, p3, ho7⟩ := gbox hw7 hg7
          simp only [← hw7, ← hg7]
          have HOA : Hid (Only (fun _ => False) w5 w7) := Lib.hid (HO7.out.trans ho7)
          have HS7 : Hid (∀ w', Only (fun _ => False) w7 w' → w'.cell? ⟨g7, 0, none⟩ = some (.int .i64 yg) ∧ w'.cell? ⟨g7, 1, none⟩ = some (.int .i64 yu) ∧ w'.cell? ⟨g7, 2, none⟩ = some (.int .i64 ya) ∧ w'.cell? ⟨g7, 3, none⟩ = some (.bool yf)) := Lib.hid (fun w' ho => ⟨ho.cell' p0 (fun f => f), ho.cell' p1 (fun f => f), ho.cell' p2 (fun f => f), ho.cell' p3 (fun f => f)⟩)
          clear hw7 hg7 p0 p1 p2 p3 ho7 c0 c1 c2 c3 q0 q1 q2 q3 q4
          generalize dskw.strN l0 = S0 at *
          generalize dskw.strN (l0 ++ enc yg.toNat) = S1 at *
          generalize dskw.strN (l0 ++ enc yg.toNat ++ enc yu.toNat) = S2 at *
          generalize dskw.strN (l0 ++ enc yg.toNat ++ enc yu.toNat ++ enc ya.toNat) = S3 at *
          generalize dskw.strN (enc yg.toNat) = E1 at *
          generalize dskw.strN (enc yu.toNat) = E2 at *
          generalize dskw.strN (enc ya.toNat) = E3 at *
          generalize dskw.strN (flagB yf) = E4 at *
          obtain ⟨T5, hT5⟩ : ∃ x, dskw.strN (l5 ++ (xgs.take (k + 1)).flatMap gB) = x := ⟨_, rfl⟩
          rw [hT5] at hs4
          have HT6 := Lib.hid hT5
          clear hT5
          obtain ⟨y1, f1⟩ := hs1
          obtain ⟨y2, f2⟩ := hs2
          obtain ⟨y3, f3⟩ := hs3
          obtain ⟨y4, f4⟩ := hs4
          refine wp_region_noPanic ?_
          refine late.region (fun w' => w'.cell? ⟨g7, 0, none⟩ = some (.int .i64 yg) ∧ w'.cell? ⟨g7, 1, none⟩ = some (.int .i64 yu) ∧ w'.cell? ⟨g7, 2, none⟩ = some (.int .i64 ya) ∧ w'.cell? ⟨g7, 3, none⟩ = some (.bool yf)) (fun j => [].contains j) (by kernel_rfl) (HS7.out _ (Only.refl _ _).drew) (fun hHeld => ?_)
          obtain ⟨z0, hz0⟩ : ∃ x, x = w7.drew := ⟨_, rfl⟩
          rw [← hz0] at hHeld ⊢
          have hot : Hid (Only (fun _ => False) w7 z0) := Lib.hid (by rw [hz0]; exact (Only.refl _ _).drew)
          clear hz0
          refine late.take (i := 0) [4, 8, 12, 16, 17] (v := ?_) rfl (by kernel_rfl) (by kernel_rfl) (by kernel_rfl) (by kernel_rfl) (fun _ _ _ h => h) (Or.inl ⟨by rfl, ?_⟩) (by assumption) ?_
          rotate_left 1
          · intro w' hSw
            try dsimp only at hSw
            go_simp
            try with_reducible rfl
          try simp only [List.getElem_toArray, List.getElem_cons_zero, Act.put, List.setIfInBounds_toArray, List.set_cons_zero, List.set_cons_succ]
          refine late.take (i := 1) [2, 3, 4, 7, 8, 11, 12, 15, 16, 17] (v := ?_) rfl (by kernel_rfl) (by kernel_rfl) (by kernel_rfl) (by kernel_rfl) (fun _ _ _ h => h) (Or.inl ⟨by rfl, ?_⟩) (by assumption) ?_
          rotate_left 1
          · intro w' hSw
            try dsimp only at hSw
            go_simp
            try with_reducible rfl
          try simp only [List.getElem_toArray, List.getElem_cons_zero, List.getElem_cons_succ, Act.put, List.setIfInBounds_toArray, List.set_cons_zero, List.set_cons_succ]
          refine late.take (i := 2) [3, 4, 7, 8, 11, 12, 15, 16, 17] (v := ?_) rfl (by kernel_rfl) (by kernel_rfl) (by kernel_rfl) (by kernel_rfl) (fun _ _ _ h => h) (Or.inl ⟨by rfl, ?_⟩) (by assumption) ?_
          rotate_left 1
          · intro w' hSw
            try dsimp only at hSw
            go_simp
            try with_reducible rfl
          try simp only [List.getElem_toArray, List.getElem_cons_zero, List.getElem_cons_succ, Act.put, List.setIfInBounds_toArray, List.set_cons_zero, List.set_cons_succ]
          refine late.take (i := 5) [6, 7, 8, 11, 12, 15, 16, 17] (v := ?_) rfl (by kernel_rfl) (by kernel_rfl) (by kernel_rfl) (by kernel_rfl) (fun _ _ _ h => h) (Or.inl ⟨by rfl, ?_⟩) (by assumption) ?_
          rotate_left 1
          · intro w' hSw
            try dsimp only at hSw
            go_simp
            try with_reducible rfl
          try simp only [List.getElem_toArray, List.getElem_cons_zero, List.getElem_cons_succ, Act.put, List.setIfInBounds_toArray, List.set_cons_zero, List.set_cons_succ]
          refine late.take (i := 6) [7, 8, 11, 12, 15, 16, 17] (v := ?_) rfl (by kernel_rfl) (by kernel_rfl) (by kernel_rfl) (by kernel_rfl) (fun _ _ _ h => h) (Or.inl ⟨by rfl, ?_⟩) (by assumption) ?_
          rotate_left 1
          · intro w' hSw
            try dsimp only at hSw
            go_simp
            try with_reducible rfl
          try simp only [List.getElem_toArray, List.getElem_cons_zero, List.getElem_cons_succ, Act.put, List.setIfInBounds_toArray, List.set_cons_zero, List.set_cons_succ]
          refine late.take (i := 9) [10, 11, 12, 15, 16, 17] (v := ?_) rfl (by kernel_rfl) (by kernel_rfl) (by kernel_rfl) (by kernel_rfl) (fun _ _ _ h => h) (Or.inl ⟨by rfl, ?_⟩) (by assumption) ?_
          rotate_left 1
          · intro w' hSw
            try dsimp only at hSw
            go_simp
            try with_reducible rfl
          try simp only [List.getElem_toArray, List.getElem_cons_zero, List.getElem_cons_succ, Act.put, List.setIfInBounds_toArray, List.set_cons_zero, List.set_cons_succ]
          refine late.take (i := 10) [11, 12, 15, 16, 17] (v := ?_) rfl (by kernel_rfl) (by kernel_rfl) (by kernel_rfl) (by kernel_rfl) (fun _ _ _ h => h) (Or.inl ⟨by rfl, ?_⟩) (by assumption) ?_
          rotate_left 1
          · intro w' hSw
            try dsimp only at hSw
            go_simp
            try with_reducible rfl
          try simp only [List.getElem_toArray, List.getElem_cons_zero, List.getElem_cons_succ, Act.put, List.setIfInBounds_toArray, List.set_cons_zero, List.set_cons_succ]
          refine late.take (i := 13) [14, 15, 16, 17] (v := ?_) rfl (by kernel_rfl) (by kernel_rfl) (by kernel_rfl) (by kernel_rfl) (fun _ _ _ h => h) (Or.inl ⟨by rfl, ?_⟩) (by assumption) ?_
          rotate_left 1
          · intro w' hSw
            try dsimp only at hSw
            go_simp
            try with_reducible rfl
          try simp only [List.getElem_toArray, List.getElem_cons_zero, List.getElem_cons_succ, Act.put, List.setIfInBounds_toArray, List.set_cons_zero, List.set_cons_succ]
          refine late.take (i := 14) [15, 16, 17] (v := ?_) rfl (by kernel_rfl) (by kernel_rfl) (by kernel_rfl) (by kernel_rfl) (fun _ _ _ h => h) (Or.inl ⟨by rfl, ?_⟩) (by assumption) ?_
          rotate_left 1
          · intro w' hSw
            try dsimp only at hSw
            go_simp
            try with_reducible rfl
          try simp only [List.getElem_toArray, List.getElem_cons_zero, List.getElem_cons_succ, Act.put, List.setIfInBounds_toArray, List.set_cons_zero, List.set_cons_succ]
          refine late.ready (rs := [3]) (by kernel_rfl) (by simp) ?_
          refine late.Each.cons rfl (fun K hK => ?_) late.Each.nil
          try simp only [List.getElem_toArray, List.getElem_cons_zero, List.getElem_cons_succ]
          go_simp
          go_at_call 46
          with_reducible refine (HE1.out _).mono ?_
          rintro _ W1 ⟨rfl, ho⟩
          replace hot := Lib.hid (hot.out.trans ho)
          clear ho
          try dsimp only
          refine hK.out _ _ (fun _ => HS7.out _ hot.out) (fun hHeld1 => ?_)
          replace hHeld1 := hHeld1 rfl
          clear hK K
          try simp only [List.getElem_toArray, List.getElem_cons_zero, List.getElem_cons_succ, Act.put, List.setIfInBounds_toArray, List.set_cons_zero, List.set_cons_succ]
          refine late.take (i := 4) [8, 12, 16, 17] (v := ?_) rfl (by kernel_rfl) (by kernel_rfl) (by kernel_rfl) (by kernel_rfl) (fun _ _ _ h => h) (Or.inl ⟨by rfl, ?_⟩) (by assumption) ?_
          rotate_left 1
          · intro w' hSw
            try dsimp only at hSw
            go_simp
            try with_reducible rfl
          try simp only [List.getElem_toArray, List.getElem_cons_zero, List.getElem_cons_succ, Act.put, List.setIfInBounds_toArray, List.set_cons_zero, List.set_cons_succ]
          refine late.ready (rs := [7]) (by kernel_rfl) (by simp) ?_
          refine late.Each.cons rfl (fun K hK => ?_) late.Each.nil
          try simp only [List.getElem_toArray, List.getElem_cons_zero, List.getElem_cons_succ]
          go_simp
          go_at_call 46
          with_reducible refine (HE2.out _).mono ?_
          rintro _ W2 ⟨rfl, ho⟩
          replace hot := Lib.hid (hot.out.trans ho)
          clear ho
          try dsimp only
          refine hK.out _ _ (fun _ => HS7.out _ hot.out) (fun hHeld2 => ?_)
          replace hHeld2 := hHeld2 rfl
          clear hK K
          try simp only [List.getElem_toArray, List.getElem_cons_zero, List.getElem_cons_succ, Act.put, List.setIfInBounds_toArray, List.set_cons_zero, List.set_cons_succ]
          refine late.take (i := 8) [12, 16, 17] (v := ?_) rfl (by kernel_rfl) (by kernel_rfl) (by kernel_rfl) (by kernel_rfl) (fun _ _ _ h => h) (Or.inl ⟨by rfl, ?_⟩) (by assumption) ?_
          rotate_left 1
          · intro w' hSw
            try dsimp only at hSw
            go_simp
            try with_reducible rfl
          try simp only [List.getElem_toArray, List.getElem_cons_zero, List.getElem_cons_succ, Act.put, List.setIfInBounds_toArray, List.set_cons_zero, List.set_cons_succ]
          refine late.ready (rs := [11]) (by kernel_rfl) (by simp) ?_
          refine late.Each.cons rfl (fun K hK => ?_) late.Each.nil
          try simp only [List.getElem_toArray, List.getElem_cons_zero, List.getElem_cons_succ]
          go_simp
          go_at_call 46
          with_reducible refine (HE3.out _).mono ?_
          rintro _ W3 ⟨rfl, ho⟩
          replace hot := Lib.hid (hot.out.trans ho)
          clear ho
          try dsimp only
          refine hK.out _ _ (fun _ => HS7.out _ hot.out) (fun hHeld3 => ?_)
          replace hHeld3 := hHeld3 rfl
          clear hK K
          try simp only [List.getElem_toArray, List.getElem_cons_zero, List.getElem_cons_succ, Act.put, List.setIfInBounds_toArray, List.set_cons_zero, List.set_cons_succ]
          refine late.take (i := 12) [16, 17] (v := ?_) rfl (by kernel_rfl) (by kernel_rfl) (by kernel_rfl) (by kernel_rfl) (fun _ _ _ h => h) (Or.inl ⟨by rfl, ?_⟩) (by assumption) ?_
          rotate_left 1
          · intro w' hSw
            try dsimp only at hSw
            go_simp
            try with_reducible rfl
          try simp only [List.getElem_toArray, List.getElem_cons_zero, List.getElem_cons_succ, Act.put, List.setIfInBounds_toArray, List.set_cons_zero, List.set_cons_succ]
          refine late.ready (rs := [15]) (by kernel_rfl) (by simp) ?_
          refine late.Each.cons rfl (fun K hK => ?_) late.Each.nil
          try simp only [List.getElem_toArray, List.getElem_cons_zero, List.getElem_cons_succ]
          go_simp
          go_at_call 47
          with_reducible refine (HE4.out _).mono ?_
          rintro _ W4 ⟨rfl, ho⟩
          replace hot := Lib.hid (hot.out.trans ho)
          clear ho
          try dsimp only
          refine hK.out _ _ (fun _ => HS7.out _ hot.out) (fun hHeld4 => ?_)
          replace hHeld4 := hHeld4 rfl
          clear hK K
          try simp only [List.getElem_toArray, List.getElem_cons_zero, List.getElem_cons_succ, Act.put, List.setIfInBounds_toArray, List.set_cons_zero, List.set_cons_succ]
          refine late.take (i := 16) [17] (v := ?_) rfl (by kernel_rfl) (by kernel_rfl) (by kernel_rfl) (by kernel_rfl) (fun _ _ _ h => h) (Or.inl ⟨by rfl, ?_⟩) (by assumption) ?_
          rotate_left 1
          · intro w' hSw
            try dsimp only at hSw
            go_simp
            try with_reducible rfl
          try simp only [List.getElem_toArray, List.getElem_cons_zero, List.getElem_cons_succ, Act.put, List.setIfInBounds_toArray, List.set_cons_zero, List.set_cons_succ]
          refine late.take (i := 17) [] (v := ?_) rfl (by kernel_rfl) (by kernel_rfl) (by kernel_rfl) (by kernel_rfl) (fun _ _ _ h => h) (Or.inl ⟨by rfl, ?_⟩) (by assumption) ?_
          rotate_left 1
          · intro w' hSw
            try dsimp only at hSw
            go_simp
            try with_reducible rfl
          try simp only [List.getElem_toArray, List.getElem_cons_zero, List.getElem_cons_succ, Act.put, List.setIfInBounds_toArray, List.set_cons_zero, List.set_cons_succ]
          refine late.done (by kernel_rfl) ?_ _
          refine NoPanic.normal ?_
          have HO9 := Lib.hid (HOA.out.trans hot.out)
          clear hHeld hot HE1 HE2 HE3 HE4 y1 y2 y3 y4 f1 f2 f3 f4 HS7 HOA HO7
          go_wp2_with fail
          go_roundw
          case rel => exact ⟨k + 1, by omega, by go_num, by rw [HT6.out], HO9⟩
          case measure => simp [intOf]; omega
        · obtain rfl : k = xn := by omega
          have hnl : ¬ (k : Int) < k := by omega
          have HFB : Hid (l5 ++ (xgs.take k).flatMap gB = H ++ ((L.map Sd.sx).take (i + 1)).flatMap sB) := Lib.hid (by rw [List.take_of_length_le (by rw [HNG.out]; omega), HL5.out.2])
          rw [HFB.out]
          have HO9 := Lib.hid (HO5.out.trans HO7.out)
          clear HFB HL5 HRG HGI HO5 HO7 HS5
          go_wp2_with fail
          go_roundw
          case rel => exact ⟨i + 1, by omega, by go_num, rfl, HO9⟩
          case measure => simp [intOf]; omega
    · obtain rfl : i = n := by omega
      have HFB : Hid (dskw.strN (H ++ ((L.map Sd.sx).take i).flatMap sB) = dskw.strN (tabB pl last (L.map Sd.sx))) := Lib.hid (by rw [List.take_of_length_le (by rw [List.length_map, HN.out]; omega), HTB.out])
      rw [HFB.out]
      have hnl : ¬ (i : Int) < i := by omega
      go_wp2_with fail
      go_ret
      exact ⟨rfl, HO.out⟩
end Go.Proofs.Ythflglejhhebeaa.cs
