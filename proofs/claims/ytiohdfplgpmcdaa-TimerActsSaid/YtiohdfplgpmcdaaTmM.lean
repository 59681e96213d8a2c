/- Timers: of none; At, Next; the document's own: Find. -/
import Derived.Test.YtiohdfplgpmcdaaTmL
namespace Go.Proofs.Ytiohdfplgpmcdaa.tmw
open Go.RowKit mem rowz
set_option linter.unusedVariables false

theorem none_any (w : World) : Calls Try.prog 8 #[] w fun e w' => e = .returned (.pointer none) ∧ Only (fun _ => False) w w' := by
  go_enter Try.func8, Try.ntmps8
  go_wp2_with fail
  go_ret
  exact ⟨rfl, Only.refl _ _⟩
set_option maxRecDepth 100000 in
theorem len_nil (w : World) : Calls Try.prog 15 #[.pointer none] w fun e w' => e = .returned (.int .i64 0) ∧ Only (fun _ => False) w w' := by
  go_enter Try.func15, Try.ntmps15
  go_wp2_with fail
  go_ret
  exact ⟨rfl, Only.refl _ _⟩
set_option maxRecDepth 100000 in
theorem due_nil (now : Int) (w : World) : Calls Try.prog 14 #[.pointer none, .int .i64 now] w fun e w' => e = .returned (.slice none 0 0) ∧ Only (fun _ => False) w w' := by
  go_enter Try.func14, Try.ntmps14
  go_wp2_with fail
  go_ret
  exact ⟨rfl, Only.refl _ _⟩
set_option maxRecDepth 100000 in
theorem set_nil (g a : Int) (w : World) : Calls Try.prog 12 #[.pointer none, .int .i64 g, .int .i64 a] w fun e w' => e = .returned (.int .i64 1) ∧ Only (fun _ => False) w w' := by
  go_enter Try.func12, Try.ntmps12
  go_wp2_with fail
  go_ret
  exact ⟨rfl, Only.refl _ _⟩
set_option maxRecDepth 100000 in
theorem find_nil (g : Int) (w : World) : Calls Try.prog 39 #[.pointer none, .int .i64 g] w fun e w' => e = .returned (.tuple #[.int .i64 0, .int .i64 1]) ∧ Only (fun _ => False) w w' := by
  go_enter Try.func39, Try.ntmps39
  go_wp2_with fail
  go_ret2
  exact ⟨rfl, by first | exact Only.refl _ _ | exact (Only.refl _ _).alloc _⟩
set_option maxRecDepth 100000 in
theorem drop_nil (g : Int) (w : World) : Calls Try.prog 13 #[.pointer none, .int .i64 g] w fun e w' => e = .returned (.int .i64 1) ∧ Only (fun _ => False) w w' := by
  go_enter Try.func13, Try.ntmps13
  go_wp2_with fail
  refine (find_nil g w).mono ?_
  rintro _ w1 ⟨rfl, k1⟩
  have KE := Lib.hid k1
  clear k1
  go_wp2_with fail
  go_ret
  exact ⟨rfl, KE.out⟩
set_option maxRecDepth 100000 in
theorem at_nil (g : Int) (w : World) : Calls Try.prog 9 #[.pointer none, .int .i64 g] w fun e w' => e = .returned (.tuple #[.int .i64 0, .int .i64 1]) ∧ Only (fun _ => False) w w' := by
  go_enter Try.func9, Try.ntmps9
  go_wp2_with fail
  refine (find_nil g w).mono ?_
  rintro _ w1 ⟨rfl, k1⟩
  have KE := Lib.hid k1
  clear k1
  go_wp2_with fail
  go_ret2
  exact ⟨rfl, KE.out⟩
set_option maxRecDepth 100000 in
theorem next_nil (w : World) : Calls Try.prog 10 #[.pointer none] w fun e w' => e = .returned (.tuple #[.int .i64 0, .bool false]) ∧ Only (fun _ => False) w w' := by
  go_enter Try.func10, Try.ntmps10
  go_wp2_with fail
  refine (len_nil w).mono ?_
  rintro _ w1 ⟨rfl, k1⟩
  have KE := Lib.hid k1
  clear k1
  go_wp2_with fail
  go_ret2
  exact ⟨rfl, KE.out⟩
theorem mIdx_lt (g : Int) (l : List Tm) : mIdx g 0 l = -1 ∨ ∃ k : Nat, k < l.length ∧ mIdx g 0 l = k := by
  rcases mIdx_rem g l 0 with ⟨h, _⟩ | ⟨k, h1, h2, _⟩
  · exact .inl h
  · exact .inr ⟨k, h1, by rw [show (0 : Int) = ((0 : Nat) : Int) from rfl, h2, Nat.zero_add]⟩
/-- the time of a number -/
def atV (g : Int) (l : List Tm) : Int := if mIdx g 0 l < 0 then 0 else (l.getD (mIdx g 0 l).toNat default).a
set_option maxRecDepth 100000 in
theorem tat_any (p : Nat) (v : Value) (l : List Tm) (g : Int) (w : World) (h : TmAt w p v l) : Calls Try.prog 9 #[.pointer (some ⟨p, 0, none⟩), .int .i64 g] w fun e w' => e = .returned (.tuple #[.int .i64 (atV g l), .int .i64 (if mIdx g 0 l < 0 then 7 else 0)]) ∧ Only (fun _ => False) w w' := by
  have HF := Lib.hid (tfind_any p v l g w h)
  obtain ⟨h1, _, h3, _, h5⟩ := h
  obtain ⟨a, cap, rfl, hc, hr⟩ := h3.reads
  clear h3
  unfold atV
  rcases mIdx_lt g l with e | ⟨k, hk, e⟩
  · rw [e] at HF ⊢
    rw [if_pos (by omega), if_pos (by omega)] at HF ⊢
    clear hr h1 e
    go_enter Try.func9, Try.ntmps9
    go_wp2_with fail
    refine HF.out.mono ?_
    rintro _ w1 ⟨rfl, k1⟩
    have KE := Lib.hid k1
    clear k1
    go_wp2_with fail
    go_ret2
    exact ⟨rfl, KE.out⟩
  · rw [e] at HF ⊢
    rw [if_neg (by omega), if_neg (by omega)] at HF ⊢
    rw [show ((k : Nat) : Int).toNat = k from rfl]
    obtain ⟨b, rfl, hcell⟩ := hr.2.resolve_left (by omega)
    have HC := Lib.hid (hcell k hk).1
    have H1 := Lib.hid h1
    clear hcell hr e h1
    generalize (l.getD k default).a = av at *
    generalize l.length = n at *
    have k0 : (0 : Int) ≤ k := by omega
    have k1' : (k : Int) < n := by omega
    go_enter Try.func9, Try.ntmps9
    go_wp2_with fail
    refine HF.out.mono ?_
    rintro _ w1 ⟨rfl, k1⟩
    have KE := Lib.hid k1
    have c1 := k1.cell' HC.out (fun f => f)
    have c2 := k1.cell' H1.out (fun f => f)
    clear k1
    go_wp2_with fail
    go_ret2
    exact ⟨rfl, KE.out⟩
def nextV (l : List Tm) : Int := if l.length = 0 then 0 else (l.getD 0 default).a
set_option maxRecDepth 100000 in
theorem tnext_any (p : Nat) (v : Value) (l : List Tm) (w : World) (h : TmAt w p v l) : Calls Try.prog 10 #[.pointer (some ⟨p, 0, none⟩)] w fun e w' => e = .returned (.tuple #[.int .i64 (nextV l), .bool (decide (0 < l.length))]) ∧ Only (fun _ => False) w w' := by
  have HF := Lib.hid (len_any p v l w h)
  obtain ⟨h1, _, h3, _, h5⟩ := h
  obtain ⟨a, cap, rfl, hc, hr⟩ := h3.reads
  clear h3
  unfold nextV
  by_cases h0 : l.length = 0
  · rw [if_pos h0]
    rw [decide_eq_false (by omega)]
    rw [h0] at HF
    clear hr h1 hc h5 h0
    go_enter Try.func10, Try.ntmps10
    go_wp2_with fail
    refine HF.out.mono ?_
    rintro _ w1 ⟨rfl, k1⟩
    have KE := Lib.hid k1
    clear k1
    go_wp2_with fail
    go_ret2
    exact ⟨rfl, KE.out⟩
  · rw [if_neg h0]
    rw [decide_eq_true (by omega)]
    obtain ⟨b, rfl, hcell⟩ := hr.2.resolve_left (by omega)
    have HC := Lib.hid (hcell 0 (by omega)).1
    have H1 := Lib.hid h1
    clear hcell hr h1
    generalize (l.getD 0 default).a = av at *
    generalize l.length = n at *
    have k1' : (0 : Int) < n := by omega
    have k2' : ((n : Int) == 0) = false := by simp; omega
    go_enter Try.func10, Try.ntmps10
    go_wp2_with fail
    refine HF.out.mono ?_
    rintro _ w1 ⟨rfl, k1⟩
    have KE := Lib.hid k1
    have c1 := k1.cell' HC.out (fun f => f)
    have c2 := k1.cell' H1.out (fun f => f)
    rw [Nat.zero_mul] at c1
    clear k1
    go_wp2_with fail
    go_ret2
    exact ⟨rfl, KE.out⟩
/-- the document's timers: a row, a number ahead of its time -/
def ReadsO (w : World) (a : Option Addr) (len : Nat) (l : List Tm) : Prop := l.length = len ∧ (len = 0 ∨ ∃ b off, a = some ⟨b, off, none⟩ ∧ ∀ k, k < len → w.cell? ⟨b, off + k * 2, none⟩ = some (.int .i64 (l.getD k default).i) ∧ w.cell? ⟨b, off + k * 2 + 1, none⟩ = some (.int .i64 (l.getD k default).a))
theorem ReadsO.only {S : Nat → Prop} {w w' : World} {a : Option Addr} {len : Nat} {l : List Tm} (h : ReadsO w a len l) (ho : Only S w w') (hs : ∀ x, a = some x → ¬ S x.block) : ReadsO w' a len l := by
  refine ⟨h.1, h.2.imp id ?_⟩
  rintro ⟨b, off, ha, hc⟩
  exact ⟨b, off, ha, fun k hk => ⟨ho.cell' (hc k hk).1 (show ¬ S b from hs _ ha), ho.cell' (hc k hk).2 (show ¬ S b from hs _ ha)⟩⟩
def UAt (w : World) (p : Nat) (a : Option Addr) (c : Nat) (m : List Tm) : Prop := w.cell? ⟨p, 0, none⟩ = some (.slice a m.length c) ∧ w.frozen? ⟨p, 0, none⟩ = false ∧ ReadsO w a m.length m ∧ (∀ y, a = some y → y.block ≠ p) ∧ m.length ≤ c ∧ c ≤ maxLen ∧ m.length ≤ 1000 ∧ (a = none → c = 0)
theorem UAt.only {S : Nat → Prop} {w w' : World} {p c : Nat} {a : Option Addr} {m : List Tm} (h : UAt w p a c m) (ho : Only S w w') (hp : ¬ S p) (hs : ∀ x, a = some x → ¬ S x.block) : UAt w' p a c m :=
  ⟨ho.cell' h.1 hp, by rw [ho.frozen (World.block_lt_of_cell? w _ h.1) hp]; exact h.2.1, h.2.2.1.only ho hs, h.2.2.2⟩
set_option maxRecDepth 100000 in
theorem rfind_any (p : Nat) (a : Option Addr) (c : Nat) (m : List Tm) (g : Int) (w : World) (h : UAt w p a c m) :
    Calls Try.prog 21 #[.pointer (some ⟨p, 0, none⟩), .int .i64 g] w fun e w' => e = .returned (.int .i64 (mIdx g 0 m)) ∧ Only (fun _ => False) w w' := by
  obtain ⟨h1, _, h3, _, _, _, h5, _⟩ := h
  have H1 := Lib.hid h1
  have H := Lib.hid h3
  have HL : Hid (m.length = m.length) := Lib.hid rfl
  clear h1 h3
  generalize hn : m.length = n at *
  clear HL
  have HL := Lib.hid hn
  clear hn
  go_enter Try.func21, Try.ntmps21
  go_wp2_with fail
  go_loopw [5] (fun i wr => ∃ k : Nat, k ≤ n ∧ i = .int .i64 k ∧ Hid (mIdx g k (m.drop k) = mIdx g 0 m) ∧ Hid (Only (fun _ => False) w wr)) (fun i _ => n - (intOf i).toNat)
  case atStart => exact ⟨0, by omega, rfl, Lib.hid rfl, Lib.hid (Only.refl _ _)⟩
  case round =>
    obtain ⟨k, hk, rfl, HP, HW⟩ := hrel
    have c0 := HW.out.cell' H1.out (fun f => f)
    by_cases h8 : k < n
    · obtain ⟨b, off, rfl, hcell⟩ := H.out.2.resolve_left (by omega)
      have c1 := HW.out.cell' (hcell k h8).1 (fun f => f)
      have hst := HP.out
      rw [mIdx_step g (by rw [HL.out]; exact h8)] at hst
      generalize (m.getD k default).i = pi at *
      have HST := Lib.hid hst
      have k1 : (k : Int) < n := by omega
      have k2 : (0 : Int) ≤ k := by omega
      clear hcell hst
      by_cases h2 : pi = g
      · have HR : Hid (mIdx g 0 m = k) := Lib.hid (by rw [← HST.out, if_pos h2])
        have h3 : (pi == g) = true := by simpa using h2
        clear h2
        go_wp2_with fail
        go_ret
        exact ⟨by rw [HR.out]; rfl, HW.out⟩
      · have HR := HST.out
        rw [if_neg h2] at HR
        replace HR := Lib.hid HR
        have h3 : (pi == g) = false := by simpa using h2
        clear h2
        go_wp2_with fail
        go_roundw
        case rel => exact ⟨k + 1, by omega, by go_num, HR, HW⟩
        case measure => simp [intOf]; omega
    · obtain rfl : k = n := by omega
      have HR : Hid (mIdx g 0 m = -1) := Lib.hid (by rw [← HP.out, List.drop_eq_nil_of_le (by rw [HL.out]; omega)]; rfl)
      go_wp2_with fail
      go_ret
      exact ⟨by rw [HR.out]; rfl, HW.out⟩
end Go.Proofs.Ytiohdfplgpmcdaa.tmw
