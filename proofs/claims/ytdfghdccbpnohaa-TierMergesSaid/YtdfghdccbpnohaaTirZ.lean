/- Lines: how many from the first one on are alike; the sort of a row, nil or not. -/
import Derived.Test.YtdfghdccbpnohaaTirY
namespace Go.Proofs.Ytdfghdccbpnohaa.tirw
open Go.RowKit mem tirm intm
set_option linter.unusedVariables false

theorem ReadsN.take {w : World} {a : Option Addr} {len : Nat} {ls : List Ln} (h : ReadsN w a len ls) (n : Nat) (hn : n ≤ len) : ReadsN w a n (ls.take n) := by
  obtain ⟨hl, hc⟩ := h
  refine ⟨by rw [List.length_take]; omega, ?_⟩
  rcases hc with h0 | ⟨b, off, ha, hcell⟩
  · exact .inl (by omega)
  · refine .inr ⟨b, off, ha, fun i hi => ?_⟩
    have e : (ls.take n).getD i default = ls.getD i default := by simp [List.getD, hi]
    rw [e]
    exact hcell i (by omega)
theorem ReadsN.drop {w : World} {b off : Nat} {len : Nat} {ls : List Ln} (h : ReadsN w (some ⟨b, off, none⟩) len ls) (n : Nat) (hn : n ≤ len) : ReadsN w (some ⟨b, off + n * 3, none⟩) (len - n) (ls.drop n) := by
  obtain ⟨hl, hc⟩ := h
  refine ⟨by rw [List.length_drop]; omega, ?_⟩
  rcases hc with h0 | ⟨b', off', ha, hcell⟩
  · exact .inl (by omega)
  · injection ha with ha
    injection ha with ha1 ha2
    subst ha1 ha2
    refine .inr ⟨b, off + n * 3, rfl, fun i hi => ?_⟩
    have e : (ls.drop n).getD i default = ls.getD (n + i) default := by simp [List.getD]
    have e2 : off + n * 3 + i * 3 = off + (n + i) * 3 := by omega
    rw [e, e2]
    exact hcell (n + i) (by omega)

set_option maxRecDepth 100000 in
set_option maxHeartbeats 1000000 in
theorem alike_any (b off len cap : Nat) (ls : List Ln) (w : World) (h : ReadsN w (some ⟨b, off, none⟩) len ls) (h1 : 1 ≤ len) (hlen : len ≤ 1000000) :
    Calls Try.prog 14 #[.slice (some ⟨b, off, none⟩) len cap] w fun e w' => e = .returned (.int .i64 (alkF (ls.getD 0 default) ls : Nat)) ∧ Only (fun _ => False) w w' := by
  have hll := h.1
  have HST : Hid (∀ k, k < len → ∀ x, alkF x (ls.drop k) = if cmpN x (ls.getD k default) = 0 then 1 + alkF x (ls.drop (k + 1)) else 0) := Lib.hid (fun k hk x => alkF_step (by omega))
  have HLN : Hid (ls.drop len = []) := Lib.hid (List.drop_of_length_le (by omega))
  have h0 : alkF (ls.getD 0 default) ls = 1 + alkF (ls.getD 0 default) (ls.drop 1) := by
    have e := HST.out 0 (by omega) (ls.getD 0 default)
    rw [List.drop_zero, if_pos ((cmpN_lk _ _).2 (lk_refl _))] at e
    exact e
  have HC : Hid (∀ i, i < len → w.cell? ⟨b, off + i * 3, none⟩ = some (.int .i64 (ls.getD i default).t) ∧ w.cell? ⟨b, off + i * 3 + 1, none⟩ = some (.int .i64 (ls.getD i default).b) ∧ w.cell? ⟨b, off + i * 3 + 2, none⟩ = some (.int .i64 (ls.getD i default).p)) := Lib.hid (by
    rcases h.2 with e | ⟨b', off', ha, hcell⟩
    · omega
    · injection ha with ha
      injection ha with ha1 ha2
      subst ha1 ha2
      exact hcell)
  have hc0 := HC.out 0 (by omega)
  rw [Nat.zero_mul, Nat.add_zero] at hc0
  have HT : Hid (∃ T, alkF (ls.getD 0 default) ls = T) := Lib.hid ⟨_, rfl⟩
  clear h hll
  generalize ls.getD 0 default = x at *
  obtain ⟨T, hT⟩ := HT.out
  rw [hT] at h0 ⊢
  have HT0 : Hid (1 + alkF x (ls.drop 1) = T) := Lib.hid h0.symm
  clear h0 hT HT
  have HCM := Lib.hid (fun (y : Ln) w' => (compare_any x y w').mono fun e w'' ⟨h1, h2⟩ => And.intro h1 h2.only)
  obtain ⟨xt, xb, xp⟩ := x
  obtain ⟨c00, c01, c02⟩ := hc0
  dsimp only at c00 c01 c02
  have HX := Lib.hid (And.intro c00 (And.intro c01 c02))
  clear c00 c01 c02
  go_enter Try.func14, Try.ntmps14
  go_wp2_with fail
  go_loopw [3] (fun nv wr => ∃ k : Nat, 1 ≤ k ∧ k ≤ len ∧ nv = .int .i64 k ∧ Hid (k + alkF ⟨xt, xb, xp⟩ (ls.drop k) = T) ∧ Hid (Only (fun _ => False) w wr)) (fun nv _ => len - (intOf nv).toNat)
  case atStart => exact ⟨1, by omega, by omega, rfl, HT0, Lib.hid (Only.refl _ _)⟩
  case round =>
    obtain ⟨k, hk1, hk, rfl, HP, HO⟩ := hrel
    by_cases h8 : k < len
    · obtain ⟨d0, d1, d2⟩ := HC.out k h8
      have hst := HST.out k h8 ⟨xt, xb, xp⟩
      have HCY := HCM.out (ls.getD k default)
      generalize hcc : cmpN ⟨xt, xb, xp⟩ (ls.getD k default) = c at *
      generalize ls.getD k default = y at *
      obtain ⟨yt, yb, yp⟩ := y
      dsimp only at d0 d1 d2 HCY
      have HCY := Lib.hid HCY
      have HST2 := Lib.hid hst
      clear hcc hst
      obtain ⟨c00, c01, c02⟩ := HX.out
      have HS : Hid (∀ w', Only (fun _ => False) wr w' → Only (fun _ => False) wr w' ∧ w'.cell? ⟨b, off, none⟩ = some (.int .i64 xt) ∧ w'.cell? ⟨b, off + 1, none⟩ = some (.int .i64 xb) ∧ w'.cell? ⟨b, off + 2, none⟩ = some (.int .i64 xp) ∧ w'.cell? ⟨b, off + k * 3, none⟩ = some (.int .i64 yt) ∧ w'.cell? ⟨b, off + k * 3 + 1, none⟩ = some (.int .i64 yb) ∧ w'.cell? ⟨b, off + k * 3 + 2, none⟩ = some (.int .i64 yp)) := Lib.hid (fun w' ho => ⟨ho, (HO.out.trans ho).cell' c00 (fun f => f), (HO.out.trans ho).cell' c01 (fun f => f), (HO.out.trans ho).cell' c02 (fun f => f), (HO.out.trans ho).cell' d0 (fun f => f), (HO.out.trans ho).cell' d1 (fun f => f), (HO.out.trans ho).cell' d2 (fun f => f)⟩)
      clear c00 c01 c02 d0 d1 d2
      obtain ⟨_, e0, e1, e2, e3, e4, e5⟩ := HS.out wr (Only.refl _ _)
      have g1 : decide (k < len) = true := by simpa using h8
      have g2 : (k : Int) < (len : Int) := by omega
      have g3 : (0 : Int) < (len : Int) := by omega
      have g4 : (0 : Int) ≤ (k : Int) := by omega
      have g5 : 0 < len := by omega
      go_wp2_with fail
      go_region_held3 (fun w' => Only (fun _ => False) wr w' ∧ w'.cell? ⟨b, off, none⟩ = some (.int .i64 xt) ∧ w'.cell? ⟨b, off + 1, none⟩ = some (.int .i64 xb) ∧ w'.cell? ⟨b, off + 2, none⟩ = some (.int .i64 xp) ∧ w'.cell? ⟨b, off + k * 3, none⟩ = some (.int .i64 yt) ∧ w'.cell? ⟨b, off + k * 3 + 1, none⟩ = some (.int .i64 yb) ∧ w'.cell? ⟨b, off + k * 3 + 2, none⟩ = some (.int .i64 yp))
        ((refine HS.out _ ?_; first | exact (Only.refl _ _).drew | exact Only.refl _ _ | exact ((Only.refl _ _).drew).trans ho | (go_split_ands; exact Only.trans (by assumption) ho)))
        (first | (go_at_call 13; (with_reducible refine (HCY.out _).mono ?_); rintro _ wn ⟨rfl, ho⟩))
      have HFF : Hid (Only (fun _ => False) wr wn) := Lib.hid (by go_split_ands; assumption)
      have HF2 := Lib.hid (HO.out.trans HFF.out)
      clear e0 e1 e2 e3 e4 e5
      by_cases hc : c = 0
      · have HN : Hid (((k + 1 : Nat)) + alkF ⟨xt, xb, xp⟩ (ls.drop (k + 1)) = T) := Lib.hid (by
          have h3 := HP.out
          rw [HST2.out, if_pos hc] at h3
          omega)
        subst hc
        go_wp2_with fail
        go_roundw
        case rel => exact ⟨k + 1, by omega, by omega, by go_num, HN, HF2⟩
        case measure => simp [intOf]; omega
      · have HN : Hid (k = T) := Lib.hid (by
          have h3 := HP.out
          rw [HST2.out, if_neg hc] at h3
          omega)
        have hcb : (c == 0) = false := by simpa using hc
        go_wp2_with fail
        rw [← HN.out]
        go_ret
        exact ⟨rfl, HF2.out⟩
    · obtain rfl : k = len := by omega
      have g1 : decide (k < k) = false := by simp
      go_wp2_with fail
      go_quiet (fail)
      have HN : Hid (k = T) := Lib.hid (by
        have h3 := HP.out
        rw [HLN.out] at h3
        exact h3)
      go_wp2_with fail
      rw [← HN.out]
      go_ret
      exact ⟨rfl, only_drewN HO.out _⟩
end Go.Proofs.Ytdfghdccbpnohaa.tirw
