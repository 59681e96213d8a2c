/- Save, Load and Gens of all places: one contract each. -/
import Derived.Test.YtcbpgplmphgcgaaSnR
import Derived.Test.YtcbpgplmphgcgaaSnS
namespace Go.Proofs.Ytcbpgplmphgcgaa.snw
open Go.RowKit mem snm crcm dskw
set_option linter.unusedVariables false

/-- what a Save of a new disk answers, and what it leaves -/
inductive Sp (n : Nat) (f s g : Int) (im : List Nat) : Int → (Nat → List Nat) → Prop
  | out (h : ¬ WIn n f s) : Sp n f s g im 1 zF
  | low (h : WIn n f s) (hg : g < 1) : Sp n f s g im 1 zF
  | big (h : WIn n f s) (hg : 1 ≤ g) (hr : roomL s < im.length) : Sp n f s g im 5 zF
  | done (a b c : Nat) (ha : f = a) (hb : s = b) (hc : g = c) (h : a + 2 * b ≤ n) (h1 : 1 ≤ b) (hg : 1 ≤ c) (hl : im.length ≤ 64 * (b - 1)) : Sp n f s g im 0 (saveF zF (a + c % 2 * b) c im)
theorem save_all (p bl bm n : Nat) (f s g : Int) (v : Value) (im : List Nat) (w : World) (h : DskAt w p bl bm n zF (fun _ => none) 0 false) (hf : -9223372036854775808 ≤ f ∧ f ≤ 9223372036854775807) (hg : g ≤ 9223372036854775807) (hv : OwnB w v im) (hnd : ∀ q, v.ownBlock = some q → ¬ Dbl p bl bm q) :
    Calls Try.prog 36 #[.pointer (some ⟨p, 0, none⟩), .int .i64 f, .int .i64 s, .int .i64 g, v] w fun e w' => ∃ sv F, e = .returned (.int .i64 sv) ∧ Sp n f s g im sv F ∧ DskAt w' p bl bm n F (fun _ => none) 0 false ∧ OwnB w' v im ∧ Only (Dbl p bl bm) w w' := by
  obtain ⟨a, len, cap, rfl, hr, ha⟩ : ∃ a len cap, v = .slice a len cap ∧ Reads w a len im ∧ ∀ x, a = some x → ¬ Dbl p bl bm x.block := by
    rcases hv.forms with ⟨rfl, rfl⟩ | ⟨g', cap, rfl, _⟩
    · exact ⟨none, 0, 0, rfl, ⟨rfl, by unfold maxLen; omega, by simp, .inl rfl⟩, fun x e => by cases e⟩
    · exact ⟨_, _, _, rfl, hv.reads rfl, fun x e => by cases e; exact hnd g' rfl⟩
  have hlen := hr.1
  have hn2 := h.n2
  have hw := within_any p bl bm n zF (fun _ => none) 0 false f s w h hf
  by_cases hW : WIn n f s
  · rw [decide_eq_true hW] at hw
    by_cases hg1 : g < 1
    · exact (save_no _ f s g a len cap w true hw (.inr hg1)).mono fun e w' ⟨h1, h2⟩ => by subst h2; exact ⟨1, zF, h1, .low hW hg1, h, hv, Only.refl _ _⟩
    · by_cases hbig : roomL s < len
      · exact (save_big _ f s g a len cap w hw hg1 hbig).mono fun e w' ⟨h1, h2⟩ => by subst h2; exact ⟨5, zF, h1, .big hW (by omega) (by omega), h, hv, Only.refl _ _⟩
      · obtain ⟨h1, h2, h3⟩ := hW
        obtain ⟨a', rfl⟩ := Int.eq_ofNat_of_zero_le h1
        obtain ⟨b', rfl⟩ := Int.eq_ofNat_of_zero_le (by omega : 0 ≤ s)
        obtain ⟨c', rfl⟩ := Int.eq_ofNat_of_zero_le (by omega : 0 ≤ g)
        have hrm : roomL (b' : Int) = 64 * ((b' : Int) - 1) := by unfold roomL; rw [if_neg (by omega)]
        rw [hrm] at hbig
        refine (save_any p bl bm n zF 0 a' b' c' a len cap im w h hr ha (by omega) (by omega) (by omega) (by omega) (by omega)).mono ?_
        intro e w' hs
        obtain ⟨h4, h5⟩ := hs.zero
        exact ⟨0, _, h4, .done a' b' c' rfl rfl rfl (by omega) (by omega) (by omega) (by omega), h5.1, hv.only h5.2 hnd, h5.2⟩
  · rw [decide_eq_false hW] at hw
    exact (save_no _ f s g a len cap w false hw (.inl rfl)).mono fun e w' ⟨h1, h2⟩ => by subst h2; exact ⟨1, zF, h1, .out hW, h, hv, Only.refl _ _⟩
/-- what Load tells of it -/
def ldE (n : Nat) (f s : Int) (sv : Int) : Int := if WIn n f s then (if sv = 0 then 0 else 7) else 1
def gnE (n : Nat) (f s : Int) : Int := if WIn n f s then 0 else 1
theorem newer_zF (a b : Nat) (hb : 1 ≤ b) : newer (slotL zF (fun _ => none) a b 0) (slotL zF (fun _ => none) a b 1) = (0, []) := by
  rw [slotL_none, slotL_none, parse_zF _ _ _ hb, parse_zF _ _ _ hb]
  rfl
theorem newer_save (a b c : Nat) (im : List Nat) (hb : 1 ≤ b) (hc : 1 ≤ c) (hc2 : c ≤ 9223372036854775807) (hl : im.length ≤ 64 * (b - 1)) (hb2 : b ≤ 100000) : newer (slotL (saveF zF (a + c % 2 * b) c im) (fun _ => none) a b 0) (slotL (saveF zF (a + c % 2 * b) c im) (fun _ => none) a b 1) = (c, im) := by
  rw [slotL_none, slotL_none]
  have hn := nsec_le hl hb
  have h1 := slot_parse zF (a + c % 2 * b) c b im hn hc (by omega) (by omega)
  rcases (by omega : c % 2 = 0 ∨ c % 2 = 1) with h2 | h2
  · rw [h2] at h1 ⊢
    rw [far_save zF (a + 0 * b) c b im hn (a + 1 * b) b (.inr (by omega)), parse_zF _ _ _ hb, h1]
    show (if c < 0 then _ else _) = _
    rw [if_neg (by omega)]
  · rw [h2] at h1 ⊢
    rw [far_save zF (a + 1 * b) c b im hn (a + 0 * b) b (.inl (by omega)), parse_zF _ _ _ hb, h1]
    show (if 0 < c then _ else _) = _
    rw [if_pos (by omega)]
theorem load_all (p bl bm n : Nat) (f s g : Int) (im : List Nat) (sv : Int) (F : Nat → List Nat) (w : World) (hS : Sp n f s g im sv F) (h : DskAt w p bl bm n F (fun _ => none) 0 false) (hf : -9223372036854775808 ≤ f ∧ f ≤ 9223372036854775807) (hg : g ≤ 9223372036854775807) :
    Calls Try.prog 37 #[.pointer (some ⟨p, 0, none⟩), .int .i64 f, .int .i64 s] w fun e w' => ∃ x y, e = .returned (.tuple #[.int .i64 x, y, .int .i64 (ldE n f s sv)]) ∧ Only (fun _ => False) w w' := by
  have hn2 := h.n2
  by_cases hW : WIn n f s
  · obtain ⟨a, rfl⟩ := Int.eq_ofNat_of_zero_le hW.1
    obtain ⟨b, rfl⟩ := Int.eq_ofNat_of_zero_le (by have := hW.2.1; omega : 0 ≤ s)
    obtain ⟨h1, h2, h3⟩ := id hW
    have H := load_yes p bl bm n F _ _ a b w h (by omega) (by omega)
    have hz : F = zF → sv ≠ 0 → Calls Try.prog 37 #[.pointer (some ⟨p, 0, none⟩), .int .i64 (a : Int), .int .i64 (b : Int)] w fun e w' => ∃ x y, e = .returned (.tuple #[.int .i64 x, y, .int .i64 (ldE n a b sv)]) ∧ Only (fun _ => False) w w' := by
      intro e1 e2
      rw [e1, newer_zF a b (by omega)] at H
      refine H.mono ?_
      rintro e w' ⟨ho, ⟨-, h5⟩ | ⟨h5, -⟩⟩
      · exact ⟨_, _, by rw [h5]; unfold ldE; rw [if_pos hW, if_neg e2], ho⟩
      · exact absurd rfl h5
    cases hS with
    | out h0 => exact absurd hW h0
    | low h0 hg1 => exact hz rfl (by omega)
    | big h0 hg1 hr => exact hz rfl (by omega)
    | done a' b' c' ha hb hc h4 h5 h6 h7 =>
      obtain rfl : a = a' := by omega
      obtain rfl : b = b' := by omega
      rw [newer_save a b c' im (by omega) h6 (by omega) h7 (by omega)] at H
      refine H.mono ?_
      rintro e w' ⟨ho, ⟨h8, -⟩ | ⟨-, va, vc, h8, -⟩⟩
      · have h8 : c' = 0 := h8
        omega
      · exact ⟨_, _, by rw [h8]; unfold ldE; rw [if_pos hW, if_pos rfl], ho⟩
  · refine (load_no _ f s w (noW_at h hf hW)).mono ?_
    rintro e w' ⟨h1, ho⟩
    exact ⟨_, _, by rw [h1]; unfold ldE; rw [if_neg hW], ho⟩
theorem gens_all (p bl bm n : Nat) (f s : Int) (F : Nat → List Nat) (w : World) (h : DskAt w p bl bm n F (fun _ => none) 0 false) (hf : -9223372036854775808 ≤ f ∧ f ≤ 9223372036854775807) :
    Calls Try.prog 38 #[.pointer (some ⟨p, 0, none⟩), .int .i64 f, .int .i64 s] w fun e w' => ∃ x0 x1 y0 y1, e = .returned (.tuple #[.agg #[.int .i64 x0, .int .i64 x1], .agg #[.bool y0, .bool y1], .int .i64 (gnE n f s)]) ∧ Only (fun _ => False) w w' := by
  by_cases hW : WIn n f s
  · obtain ⟨a, rfl⟩ := Int.eq_ofNat_of_zero_le hW.1
    obtain ⟨b, rfl⟩ := Int.eq_ofNat_of_zero_le (by have := hW.2.1; omega : 0 ≤ s)
    obtain ⟨h1, h2, h3⟩ := id hW
    refine (gens_yes p bl bm n F _ _ a b w h (by omega) (by omega)).mono ?_
    rintro e w' ⟨h4, ho⟩
    exact ⟨_, _, _, _, by rw [h4]; unfold gnE; rw [if_pos hW], ho⟩
  · refine (gens_no _ f s w (noW_at h hf hW)).mono ?_
    rintro e w' ⟨h4, ho⟩
    exact ⟨_, _, _, _, by rw [h4]; unfold gnE; rw [if_neg hW], ho⟩
end Go.Proofs.Ytcbpgplmphgcgaa.snw
