/- ArithSums's walk. -/
import Derived.Test.YtooffbgcaichmaaSumR
namespace Go.Proofs.Ytooffbgcaichmaa.bigw
open Go.RowKit mem bigm intm
set_option linter.unusedVariables false

theorem info_parts {o : Option TypeInfo} {z : Value} {a b : Nat} (h : o.map (fun i => (i.zero, i.size, i.bytes)) = some (some z, a, b)) : ∃ i, o = some i ∧ i.zero = some z ∧ i.size = a ∧ i.bytes = b := by
  cases o with
  | none => cases h
  | some i => simp at h; exact ⟨i, rfl, h.1, h.2.1, h.2.2⟩

theorem form_of {w : World} {base n size : Nat} {e : TypeId} {v : Value} {xs : List Value} (h : w.ownsRow base e size v n xs) (hne : v ≠ .slice none 0 0) : ∃ g cap, v = .slice (some ⟨g, 0, none⟩) n cap ∧ base ≤ g := by
  rcases h.2 with ⟨h0, _⟩ | ⟨g, cap, _, hv, hg, _⟩
  · exact absurd h0 hne
  · exact ⟨g, cap, hv, hg⟩

theorem nil_reads (w : World) (a : Option Addr) : ReadsI w a 0 [] := ⟨rfl, by unfold maxLen; omega, by simp, .inl rfl⟩

set_option maxRecDepth 100000 in
set_option maxHeartbeats 2000000 in
theorem sums_walk (a : Option Addr) (len cap : Nat) (l : List Int) (w : World) (h : IntsR w a len cap l) :
    Calls Try.prog 4 #[.slice a len cap] w fun e w' => e = .returned (.bool true) ∧ Below w.heap.size w w' := by
  obtain ⟨hr, hlc, hcm, hnone⟩ := h
  obtain ⟨i0, hi, hz0, hz1, hz2⟩ := info_parts info_i64
  unfold maxLen at hcm
  rcases a with _ | x
  · have := hnone rfl
    obtain rfl : cap = 0 := this
    obtain rfl : len = 0 := by omega
    go_enter Try.func4, Try.ntmps4
    go_wp2_with fail
    refine (asum_any _ _ _ [] _ (nil_reads _ _)).mono ?_
    rintro e w1 ⟨rfl, rfl⟩
    go_wp2_with fail
    refine (rsum_any _ _ _ [] _ (nil_reads _ _)).mono ?_
    rintro e w1 ⟨rfl, hO1⟩
    go_wp2_with fail
    refine (sums_any _).mono ?_
    rintro e w2 ⟨rfl, rfl⟩
    rw [show intOr 0 = 0 from rfl, show isInt 0 = true from rfl]
    have hO0 : Only (fun _ => False) w w1 := Only.trans (((Only.refl _ _).alloc _).alloc _) hO1
    go_wp2_with fail
    refine (same_any _ _ _ _ _ [] _ (nil_reads _ _) (nil_reads _ _)).mono ?_
    rintro e w3 ⟨rfl, hO3⟩
    go_wp2_with fail
    go_ret
    exact ⟨rfl, (hO0.trans hO3).none⟩
  · rcases Nat.lt_or_ge 100 len with hlen | hlen
    all_goals
      obtain ⟨n, hn, hn3, hnl⟩ : ∃ n, n = min len 100 ∧ n ≤ 100 ∧ n ≤ len := ⟨_, rfl, by omega, by omega⟩
      have HR : Hid (ReadsI w (some x) n (l.take n)) := Lib.hid (hr.take n hnl)
      generalize l.take n = l' at HR
      clear hr hnone
      first | (rw [Nat.min_eq_right (by omega : 100 ≤ len)] at hn; subst hn) | (rw [Nat.min_eq_left (by omega : len ≤ 100)] at hn; subst hn)
      go_enter Try.func4, Try.ntmps4
      go_wp2_with (first | (at_builtin; refine wpList_append_own _ rfl _ _ 34 rfl w.heap.size 3 i0 (.int .i64 0) 1 8 Try.underlying34 hi hz0 hz1 hz2 rfl (by decide) _ _ _ rfl (World.ownsRow_lit w #[] 0 (Nat.le_refl _) (by decide) rfl) x _ _ (iv l') rfl ?c1 ?c2 ?c3 ?c4 ?c5 ?c6 ?_))
      case c1 => rw [iv_length, HR.out.1, Nat.mul_one]
      case c2 => exact newsI (HR.out.only ((Only.refl (fun _ => False) w).alloc _) (fun _ _ f => f))
      case c3 => exact iv_one l'
      case c4 => unfold maxLen; omega
      case c5 => omega
      case c6 => simp
      intro v' w1 hown hgrow hne
      obtain ⟨g, c1, hv, hg⟩ := form_of hown (by simpa using hne)
      rw [hv] at hown ⊢
      clear hv hne
      have R1 := Lib.hid (ReadsI.of_owns hown (by unfold maxLen; omega) HR.out.2.2.1)
      have hb1 : Below w.heap.size w w1 := ((Below.refl _ _).alloc (Nat.le_refl _) _).grown hgrow (by simp) (by intro k hk; simp [Value.ownBlock] at hk; omega)
      have O1 := Lib.hid (Only.of_below hb1)
      have HLB := Lib.hid HR.out.2.2.1
      have HLL := Lib.hid HR.out.1
      clear hown hgrow HR hb1
      go_wp2_with (first | (at_builtin; refine wpList_append_own _ rfl _ _ 34 rfl w1.heap.size 3 i0 (.int .i64 0) 1 8 Try.underlying34 hi hz0 hz1 hz2 rfl (by decide) _ _ _ rfl (World.ownsRow_lit w1 #[] 0 (Nat.le_refl _) (by decide) rfl) ⟨g, 0, none⟩ _ _ (iv l') rfl ?c1 ?c2 ?c3 ?c4 ?c5 ?c6 ?_))
      case c1 => rw [iv_length, HLL.out, Nat.mul_one]
      case c2 => exact newsI (R1.out.only ((Only.refl (fun _ => False) w1).alloc _) (fun _ _ f => f))
      case c3 => exact iv_one l'
      case c4 => unfold maxLen; omega
      case c5 => omega
      case c6 => simp
      intro v' w2 hown hgrow hne
      obtain ⟨g2, c2, hv, hg2⟩ := form_of hown (by simpa using hne)
      rw [hv] at hown ⊢
      clear hv hne
      have R2 := Lib.hid (ReadsI.of_owns hown (by unfold maxLen; omega) HLB.out)
      have hb2 : Below w1.heap.size w1 w2 := ((Below.refl _ _).alloc (Nat.le_refl _) _).grown hgrow (by simp) (by intro k hk; simp [Value.ownBlock] at hk; omega)
      have O2 := Lib.hid (Only.of_below hb2)
      have R12 := Lib.hid (R1.out.only O2.out (fun _ _ f => f))
      clear hown hgrow hb2 R1
      go_wp2_with fail
      refine (asum_any _ _ _ l' _ R12.out).mono ?_
      rintro e w3 ⟨rfl, rfl⟩
      go_wp2_with fail
      refine (rsum_any _ _ _ l' _ R12.out).mono ?_
      rintro e w3 ⟨rfl, hO3⟩
      have O3 := Lib.hid hO3
      clear hO3
      generalize intOr l'.sum = X
      generalize isInt l'.sum = B
      cases B
      all_goals
        go_wp2_with fail
        refine (sums_any _).mono ?_
        rintro e w4 ⟨rfl, rfl⟩
        go_wp2_with fail
        refine (same_any _ _ _ _ _ l' _ (R12.out.only O3.out (fun _ _ f => f)) (R2.out.only O3.out (fun _ _ f => f))).mono ?_
        rintro e w4 ⟨rfl, hO4⟩
        have O4 := Lib.hid (((O1.out.trans O2.out).trans O3.out).trans hO4)
        clear hO4
        go_wp2_with fail
        go_ret
        exact ⟨rfl, O4.out.none⟩
end Go.Proofs.Ytooffbgcaichmaa.bigw
