/- Tariffs: tame, with its capacity; a block's tier and a split, of whatever comes in. -/
import Derived.Test.YtcglhenbcdkkmaaTirQ
import Derived.Test.YtcglhenbcdkkmaaTirR
namespace Go.Proofs.Ytcglhenbcdkkmaa.tirw
open Go.RowKit mem tirm intm
set_option linter.unusedVariables false

theorem form_own2 {w : World} {base n size : Nat} {e : TypeId} {v : Value} {xs : List Value} (h : w.ownsRow base e size v n xs) (hne : v ≠ .slice none 0 0) : ∃ g cap, v = .slice (some ⟨g, 0, none⟩) n cap ∧ base ≤ g ∧ n ≤ cap ∧ cap ≤ 9223372036854775807 := by
  rcases h.2 with ⟨hv, _⟩ | ⟨g, cap, cur, hv, hg, hh, hc, hm, _⟩
  · exact absurd hv hne
  · exact ⟨g, cap, hv, hg, hc, by unfold maxLen at hm; omega⟩

def TamedAt2 (G M B : Int) (ts : List Tr) (w : World) (e : Ending) (w' : World) : Prop :=
  ∃ g cp, e = .returned (.agg #[.int .i64 G, .int .i64 M, .int .i64 B, .slice (some ⟨g, 0, none⟩) ts.length cp]) ∧ ReadsT w' (some ⟨g, 0, none⟩) ts.length ts ∧ (ts.length ≤ cp ∧ cp ≤ 9223372036854775807) ∧ w.heap.size ≤ g ∧ Only (fun _ => False) w w'

set_option maxRecDepth 100000 in
set_option maxHeartbeats 2000000 in
theorem tame2_any (G M B : Int) (a : Option Addr) (len cap n : Nat) (ts : List Tr) (w : World) (h : TiersR w a len cap ts) (hn : n = min len 9) :
    Calls Try.prog 22 #[.agg #[.int .i64 G, .int .i64 M, .int .i64 B, .slice a len cap]] w (TamedAt2 G M B (ts.take n) w) := by
  obtain ⟨i0, hi, hz0, hz1, hz2⟩ := info_parts info_tier
  obtain ⟨hr, hlc, hcm, hnone⟩ := h
  have hn70 : n ≤ 9 := by omega
  have hnl : n ≤ len := by omega
  have HR : Hid (ReadsT w a n (ts.take n)) := Lib.hid (hr.take n (by omega))
  have hlen : (ts.take n).length = n := HR.out.1
  unfold TamedAt2
  rw [hlen]
  generalize ts.take n = l' at *
  rcases a with _ | x
  · obtain rfl : cap = 0 := hnone rfl
    obtain rfl : len = 0 := by omega
    obtain rfl : n = 0 := by omega
    have hm0 : min (0 : Int) 9 = 0 := by decide
    clear hr hnone hn
    have HN : Hid (l' = []) := Lib.hid (List.eq_nil_of_length_eq_zero hlen)
    clear hlen
    go_enter Try.func22, Try.ntmps22
    go_wp2_with fail
    refine bodyPost_ret (v := .agg #[.int .i64 G, .int .i64 M, .int .i64 B, .slice (some ⟨w.heap.size + 1 + 1, 0, none⟩) 0 0]) (by simp [results, Try.results22, go_sem]) rfl ⟨_, 0, rfl, by rw [HN.out]; exact ReadsT.nil _ _, ⟨Nat.le_refl _, by omega⟩, by omega, (((Only.refl _ w).alloc _).alloc _).alloc _⟩
  · have hmin : min (len : Int) 9 = (n : Int) := by omega
    have HNL := Lib.hid hn
    have HIN : Hid (∀ x ∈ l', InI x.u ∧ InI x.p) := Lib.hid HR.out.2.2.1
    have HN2 := Lib.hid hlen
    have hni : (0 : Int) ≤ (n : Int) := by omega
    have hnc : (n : Int) ≤ (cap : Int) := by omega
    obtain ⟨W0, hW0⟩ : ∃ W0, W0 = ((w.alloc (.cells #[.int .i64 G, .int .i64 M, .int .i64 B, .slice (some x) len cap] 32)).alloc (.cells #[.int .i64 0, .int .i64 0, .int .i64 0, .slice none 0 0] 32)).alloc (.cells #[] 43) := ⟨_, rfl⟩
    have HO0 : Hid (Only (fun _ => False) w W0) := Lib.hid (by rw [hW0]; exact (((Only.refl _ w).alloc _).alloc _).alloc _)
    have HP : Hid (W0.ownsRow (w.heap.size + 2) 43 2 (.slice (some ⟨w.heap.size + 1 + 1, 0, none⟩) 0 0) 0 (tv [])) := Lib.hid (by
      rw [hW0]
      have := World.ownsRow_lit (base := w.heap.size + 2) (e := 43) (size := 2) ((w.alloc (.cells #[.int .i64 G, .int .i64 M, .int .i64 B, .slice (some x) len cap] 32)).alloc (.cells #[.int .i64 0, .int .i64 0, .int .i64 0, .slice none 0 0] 32)) #[] 0 (by simp) (by decide) rfl
      have e : ((w.alloc (.cells #[.int .i64 G, .int .i64 M, .int .i64 B, .slice (some x) len cap] 32)).alloc (.cells #[.int .i64 0, .int .i64 0, .int .i64 0, .slice none 0 0] 32)).heap.size = w.heap.size + 1 + 1 := by simp
      rw [e] at this
      exact this)
    have HTB : Hid (W0.cell? ⟨w.heap.size, 0, none⟩ = some (.int .i64 G) ∧ W0.cell? ⟨w.heap.size, 1, none⟩ = some (.int .i64 M) ∧ W0.cell? ⟨w.heap.size, 2, none⟩ = some (.int .i64 B) ∧ W0.cell? ⟨w.heap.size, 3, none⟩ = some (.slice (some x) len cap)) := Lib.hid (by
      rw [hW0]
      have ho : Only (fun _ => False) (w.alloc (.cells #[.int .i64 G, .int .i64 M, .int .i64 B, .slice (some x) len cap] 32)) (((w.alloc (.cells #[.int .i64 G, .int .i64 M, .int .i64 B, .slice (some x) len cap] 32)).alloc (.cells #[.int .i64 0, .int .i64 0, .int .i64 0, .slice none 0 0] 32)).alloc (.cells #[] 43)) := ((Only.refl _ _).alloc _).alloc _
      exact ⟨ho.cell' (alloc_new _ _ _ _ _ _ rfl rfl) (fun f => f), ho.cell' (alloc_new _ _ _ _ _ _ rfl rfl) (fun f => f), ho.cell' (alloc_new _ _ _ _ _ _ rfl rfl) (fun f => f), ho.cell' (alloc_new _ _ _ _ _ _ rfl rfl) (fun f => f)⟩)
    have HFT : Hid (Four W0 w.heap.size) := Lib.hid (by rw [hW0]; exact (Four.new rfl).only (((Only.refl (fun _ => False) _).alloc _).alloc _) (fun f => f))
    have HFR : Hid (Four W0 (w.heap.size + 1)) := Lib.hid (by rw [hW0]; exact (Four.new (by simp)).only ((Only.refl (fun _ => False) _).alloc _) (fun f => f))
    have HRW : Hid (ReadsT W0 (some x) n l') := Lib.hid (HR.out.only HO0.out (fun _ _ f => f))
    rw [hW0] at HP HRW
    have HW0 := Lib.hid hW0
    have hn9 : (len ≤ 9 ∧ n = len) ∨ (9 < len ∧ n = 9) := by omega
    clear hr hnone hn hlen hW0 hmin
    rcases hn9 with ⟨h9, rfl⟩ | ⟨h9, rfl⟩
    · have h99 : (n : Int) ≤ 9 := by omega
      go_enter Try.func22, Try.ntmps22
      go_wp2_with (at_builtin; refine wpList_append_own _ rfl _ _ 30 rfl (w.heap.size + 2) 43 i0 _ 2 16 Try.underlying30 hi hz0 hz1 hz2 rfl (by decide) _ 0 _ rfl HP.out x n cap (tv l') rfl ?c1 ?c2 ?c3 ?c4 ?c5 ?c6 ?_)
      case c1 => rw [tv_length, HN2.out]
      case c2 => exact newsT HRW.out
      case c3 => exact tv_one l'
      case c4 => unfold maxLen; omega
      case c5 => omega
      case c6 => simp
      intro v2 w2 hown hgrow hne
      obtain ⟨g, cp, rfl, hg, hcp, hcx⟩ := form_own2 hown (fun e => hne e)
      rw [← HW0.out] at hgrow
      have HGR : Hid (Only (fun q => q = w.heap.size + 1 + 1) W0 w2) := Lib.hid ((Only.of_grown hgrow).mono (fun q _ hq => by
        have : w.heap.size + 1 + 1 = q := by simpa [Value.ownBlock] using hq
        omega))
      have HRD := Lib.hid (own_readsT hown (by omega) HIN.out)
      have c0 := HGR.out.cell' HTB.out.1 (fun e => by have e' : w.heap.size = w.heap.size + 1 + 1 := e; omega)
      have c1 := HGR.out.cell' HTB.out.2.1 (fun e => by have e' : w.heap.size = w.heap.size + 1 + 1 := e; omega)
      have c2 := HGR.out.cell' HTB.out.2.2.1 (fun e => by have e' : w.heap.size = w.heap.size + 1 + 1 := e; omega)
      have c3 := HGR.out.cell' HTB.out.2.2.2 (fun e => by have e' : w.heap.size = w.heap.size + 1 + 1 := e; omega)
      obtain ⟨_, _, _, _, _, _, _, f3⟩ := HFT.out.only HGR.out (fun e => by have e' : w.heap.size = w.heap.size + 1 + 1 := e; omega)
      have HST : Hid (Only (fun q => q = w.heap.size) w2 (w2.setCell ⟨w.heap.size, 3, none⟩ (.slice (some ⟨g, 0, none⟩) n cp))) := Lib.hid (Only.set (fun q => q = w.heap.size) w2 w.heap.size 3 _ rfl)
      have HR4 := (HFR.out.only HGR.out (fun e => by have e' : w.heap.size + 1 = w.heap.size + 1 + 1 := e; omega)).only HST.out (fun e => by have e' : w.heap.size + 1 = w.heap.size := e; omega)
      have HE := Lib.hid (HR4.set (.int .i64 G) (.int .i64 M) (.int .i64 B) (.slice (some ⟨g, 0, none⟩) n cp))
      obtain ⟨⟨_, r0⟩, ⟨_, r1⟩, ⟨_, r2⟩, ⟨_, r3⟩, g0, g1, g2, g3⟩ := HR4
      have e0 : (w2.setCell ⟨w.heap.size, 3, none⟩ (.slice (some ⟨g, 0, none⟩) n cp)).cell? ⟨w.heap.size, 3, none⟩ = some (.slice (some ⟨g, 0, none⟩) n cp) := cell_same c3
      clear hown hgrow hne HP HRW
      go_wp2_with fail
      refine bodyPost_ret (v := .agg #[.int .i64 G, .int .i64 M, .int .i64 B, .slice (some ⟨g, 0, none⟩) n cp]) (by simp [results, Try.results22, go_sem, HE.out.1, HE.out.2.1, HE.out.2.2.1, HE.out.2.2.2.1]) rfl ⟨g, cp, rfl, ?_, ⟨by omega, by omega⟩, by omega, ?_⟩
      · exact (HRD.out.only HST.out (fun y hy e => by injection hy with hy; subst hy; have e' : g = w.heap.size := e; omega)).only HE.out.2.2.2.2 (fun y hy e => by injection hy with hy; subst hy; have e' : g = w.heap.size + 1 := e; omega)
      · exact ((HO0.out.then HGR.out (fun q hq e => by have e' : q = w.heap.size + 1 + 1 := e; omega)).then HST.out (fun q hq e => by have e' : q = w.heap.size := e; omega)).then HE.out.2.2.2.2 (fun q hq e => by have e' : q = w.heap.size + 1 := e; omega)
    · have h99 : (9 : Int) < (len : Int) := by omega
      go_enter Try.func22, Try.ntmps22
      go_wp2_with (at_builtin; refine wpList_append_own _ rfl _ _ 30 rfl (w.heap.size + 2) 43 i0 _ 2 16 Try.underlying30 hi hz0 hz1 hz2 rfl (by decide) _ 0 _ rfl HP.out x 9 cap (tv l') rfl ?c1 ?c2 ?c3 ?c4 ?c5 ?c6 ?_)
      case c1 => rw [tv_length, HN2.out]
      case c2 => exact newsT HRW.out
      case c3 => exact tv_one l'
      case c4 => unfold maxLen; omega
      case c5 => omega
      case c6 => simp
      intro v2 w2 hown hgrow hne
      obtain ⟨g, cp, rfl, hg, hcp, hcx⟩ := form_own2 hown (fun e => hne e)
      rw [← HW0.out] at hgrow
      have HGR : Hid (Only (fun q => q = w.heap.size + 1 + 1) W0 w2) := Lib.hid ((Only.of_grown hgrow).mono (fun q _ hq => by
        have : w.heap.size + 1 + 1 = q := by simpa [Value.ownBlock] using hq
        omega))
      have HRD := Lib.hid (own_readsT hown (by omega) HIN.out)
      have c0 := HGR.out.cell' HTB.out.1 (fun e => by have e' : w.heap.size = w.heap.size + 1 + 1 := e; omega)
      have c1 := HGR.out.cell' HTB.out.2.1 (fun e => by have e' : w.heap.size = w.heap.size + 1 + 1 := e; omega)
      have c2 := HGR.out.cell' HTB.out.2.2.1 (fun e => by have e' : w.heap.size = w.heap.size + 1 + 1 := e; omega)
      have c3 := HGR.out.cell' HTB.out.2.2.2 (fun e => by have e' : w.heap.size = w.heap.size + 1 + 1 := e; omega)
      obtain ⟨_, _, _, _, _, _, _, f3⟩ := HFT.out.only HGR.out (fun e => by have e' : w.heap.size = w.heap.size + 1 + 1 := e; omega)
      have HST : Hid (Only (fun q => q = w.heap.size) w2 (w2.setCell ⟨w.heap.size, 3, none⟩ (.slice (some ⟨g, 0, none⟩) 9 cp))) := Lib.hid (Only.set (fun q => q = w.heap.size) w2 w.heap.size 3 _ rfl)
      have HR4 := (HFR.out.only HGR.out (fun e => by have e' : w.heap.size + 1 = w.heap.size + 1 + 1 := e; omega)).only HST.out (fun e => by have e' : w.heap.size + 1 = w.heap.size := e; omega)
      have HE := Lib.hid (HR4.set (.int .i64 G) (.int .i64 M) (.int .i64 B) (.slice (some ⟨g, 0, none⟩) 9 cp))
      obtain ⟨⟨_, r0⟩, ⟨_, r1⟩, ⟨_, r2⟩, ⟨_, r3⟩, g0, g1, g2, g3⟩ := HR4
      have e0 : (w2.setCell ⟨w.heap.size, 3, none⟩ (.slice (some ⟨g, 0, none⟩) 9 cp)).cell? ⟨w.heap.size, 3, none⟩ = some (.slice (some ⟨g, 0, none⟩) 9 cp) := cell_same c3
      clear hown hgrow hne HP HRW
      go_wp2_with fail
      refine bodyPost_ret (v := .agg #[.int .i64 G, .int .i64 M, .int .i64 B, .slice (some ⟨g, 0, none⟩) 9 cp]) (by simp [results, Try.results22, go_sem, HE.out.1, HE.out.2.1, HE.out.2.2.1, HE.out.2.2.2.1]) rfl ⟨g, cp, rfl, ?_, ⟨by omega, by omega⟩, by omega, ?_⟩
      · exact (HRD.out.only HST.out (fun y hy e => by injection hy with hy; subst hy; have e' : g = w.heap.size := e; omega)).only HE.out.2.2.2.2 (fun y hy e => by injection hy with hy; subst hy; have e' : g = w.heap.size + 1 := e; omega)
      · exact ((HO0.out.then HGR.out (fun q hq e => by have e' : q = w.heap.size + 1 + 1 := e; omega)).then HST.out (fun q hq e => by have e' : q = w.heap.size := e; omega)).then HE.out.2.2.2.2 (fun q hq e => by have e' : q = w.heap.size + 1 := e; omega)

/-- a block's tier, of whatever comes in -/
def idxA (G M B : Int) (ts : List Tr) (n : Int) : Int := if n < 1 ∨ tchk G M B ts ≠ 0 then -1 else idxF n 0 ts
theorem Index_any (G M B : Int) (a : Option Addr) (len cap : Nat) (ts : List Tr) (n : Int) (w : World) (h : ReadsT w a len ts) :
    Calls Try.prog 25 #[.agg #[.int .i64 G, .int .i64 M, .int .i64 B, .slice a len cap], .int .i64 n] w fun e w' => e = .returned (.int .i64 (idxA G M B ts n)) ∧ Only (fun _ => False) w w' := by
  unfold idxA
  by_cases hc : n < 1 ∨ tchk G M B ts ≠ 0
  · rw [if_pos hc]
    exact Index_no G M B a len cap ts n w h hc
  · rw [if_neg hc]
    exact Index_yes G M B a len cap ts n w h (by omega) (by omega)
theorem rIndex_any (G M B : Int) (a : Option Addr) (len cap : Nat) (ts : List Tr) (n : Int) (w : World) (h : ReadsT w a len ts) :
    Calls Try.prog 117 #[.agg #[.int .i64 G, .int .i64 M, .int .i64 B, .slice a len cap], .int .i64 n] w fun e w' => e = .returned (.int .i64 (idxA G M B ts n)) ∧ Only (fun _ => False) w w' := by
  unfold idxA
  by_cases hc : n < 1 ∨ tchk G M B ts ≠ 0
  · rw [if_pos hc]
    exact rIndex_no G M B a len cap ts n w h hc
  · rw [if_neg hc]
    exact rIndex_yes G M B a len cap ts n w h (by omega) (by omega)

/-- the lines of a split, of whatever comes in; its error -/
def outB (p n : Int) : Prop := p < 0 ∨ 1099511627776 < p ∨ n < 0 ∨ 1073741824 < n
instance (p n : Int) : Decidable (outB p n) := inferInstanceAs (Decidable (_ ∨ _))
def splL (G M B : Int) (ts : List Tr) (p n : Int) : List Ln :=
  if tchk G M B ts ≠ 0 ∨ outB p n ∨ n = 0 then [] else if M = 2 then [⟨idxF (p + n) 0 ts, n, (ts.getD (idxF (p + n) 0 ts).toNat default).p⟩] else gradF (p + n) 0 p ts
def splE (G M B : Int) (ts : List Tr) (p n : Int) : Int := if tchk G M B ts ≠ 0 ∨ outB p n then 1 else 0
def SplitAt (ls : List Ln) (er : Int) (w : World) (e : Ending) (w' : World) : Prop :=
  ∃ a cap, e = .returned (.tuple #[.slice a ls.length cap, .int .i64 er]) ∧ ReadsN w' a ls.length ls ∧ Only (fun _ => False) w w'
theorem split_any (G M B : Int) (a : Option Addr) (len cap : Nat) (ts : List Tr) (p n : Int) (w : World) (h : ReadsT w a len ts) :
    Calls Try.prog 23 #[.agg #[.int .i64 G, .int .i64 M, .int .i64 B, .slice a len cap], .int .i64 p, .int .i64 n] w (SplitAt (splL G M B ts p n) (splE G M B ts p n) w) := by
  unfold splL splE
  by_cases hc : tchk G M B ts = 0
  · by_cases ho : outB p n
    · rw [if_pos (.inr (.inl ho)), if_pos (.inr ho)]
      exact (split_out G M B a len cap ts p n w h hc ho).mono fun e w' ⟨h1, h2⟩ => ⟨none, 0, h1, ⟨rfl, .inl rfl⟩, h2⟩
    · have hb : 0 ≤ p ∧ p ≤ 1099511627776 ∧ 0 ≤ n ∧ n ≤ 1073741824 := by unfold outB at ho; omega
      by_cases hn : n = 0
      · rw [if_pos (.inr (.inr hn)), if_neg (by rintro (e | e); exact e hc; exact ho e)]
        subst hn
        exact (split_zero G M B a len cap ts p w h hc hb.1 hb.2.1).mono fun e w' ⟨h1, h2⟩ => ⟨none, 0, h1, ⟨rfl, .inl rfl⟩, h2⟩
      · have e1 : ¬ (tchk G M B ts ≠ 0 ∨ outB p n ∨ n = 0) := fun e => e.elim (fun e => e hc) (fun e => e.elim ho hn)
        have e2 : ¬ (tchk G M B ts ≠ 0 ∨ outB p n) := fun e => e.elim (fun e => e hc) ho
        rw [if_neg e1, if_neg e2]
        have hM := ((tchk_ok G M B ts).1 hc).2.1
        by_cases h2 : M = 2
        · rw [if_pos h2]
          subst h2
          exact split_vol G B a len cap ts p n w h hc hb.1 hb.2.1 (by omega) hb.2.2.2
        · rw [if_neg h2]
          obtain rfl : M = 1 := by omega
          exact split_grad G B a len cap ts p n w h hc hb.1 hb.2.1 (by omega) hb.2.2.2
  · rw [if_pos (.inl hc), if_pos (.inl hc)]
    exact (split_no G M B a len cap ts p n w h hc).mono fun e w' ⟨h1, h2⟩ => ⟨none, 0, h1, ⟨rfl, .inl rfl⟩, h2⟩
theorem rsplit_any (G M B : Int) (a : Option Addr) (len cap : Nat) (ts : List Tr) (p n : Int) (w : World) (h : ReadsT w a len ts) :
    Calls Try.prog 88 #[.agg #[.int .i64 G, .int .i64 M, .int .i64 B, .slice a len cap], .int .i64 p, .int .i64 n] w (SplitAt (splL G M B ts p n) (splE G M B ts p n) w) := by
  unfold splL splE
  by_cases hc : tchk G M B ts = 0
  · by_cases ho : outB p n
    · rw [if_pos (.inr (.inl ho)), if_pos (.inr ho)]
      exact (rsplit_out G M B a len cap ts p n w h hc ho).mono fun e w' ⟨h1, h2⟩ => ⟨none, 0, h1, ⟨rfl, .inl rfl⟩, h2⟩
    · have hb : 0 ≤ p ∧ p ≤ 1099511627776 ∧ 0 ≤ n ∧ n ≤ 1073741824 := by unfold outB at ho; omega
      by_cases hn : n = 0
      · rw [if_pos (.inr (.inr hn)), if_neg (by rintro (e | e); exact e hc; exact ho e)]
        subst hn
        exact (rsplit_zero G M B a len cap ts p w h hc hb.1 hb.2.1).mono fun e w' ⟨h1, h2⟩ => ⟨none, 0, h1, ⟨rfl, .inl rfl⟩, h2⟩
      · have e1 : ¬ (tchk G M B ts ≠ 0 ∨ outB p n ∨ n = 0) := fun e => e.elim (fun e => e hc) (fun e => e.elim ho hn)
        have e2 : ¬ (tchk G M B ts ≠ 0 ∨ outB p n) := fun e => e.elim (fun e => e hc) ho
        rw [if_neg e1, if_neg e2]
        have hM := ((tchk_ok G M B ts).1 hc).2.1
        by_cases h2 : M = 2
        · rw [if_pos h2]
          subst h2
          exact rsplit_vol G B a len cap ts p n w h hc hb.1 hb.2.1 (by omega) hb.2.2.2
        · rw [if_neg h2]
          obtain rfl : M = 1 := by omega
          have hg : gradF (p + n) 0 p ts = gradR p (p + n) 0 0 ts := grad_same p (p + n) hb.1 (by omega) ts 0 0 p ((tchk_ok G 1 B ts).1 hc).2.2.2.2 (by omega) (by omega)
          rw [hg]
          exact rsplit_grad G B a len cap ts p n w h hc hb.1 hb.2.1 (by omega) hb.2.2.2
  · rw [if_pos (.inl hc), if_pos (.inl hc)]
    exact (rsplit_no G M B a len cap ts p n w h hc).mono fun e w' ⟨h1, h2⟩ => ⟨none, 0, h1, ⟨rfl, .inl rfl⟩, h2⟩
end Go.Proofs.Ytcglhenbcdkkmaa.tirw
