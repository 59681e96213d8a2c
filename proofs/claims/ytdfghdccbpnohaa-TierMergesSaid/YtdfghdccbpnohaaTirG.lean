/- Tariffs: the law's fixed two tiers. Tariffs: the law's tame: no more than nine tiers, in memory of the call's own. A tariff's four cells. -/
import Derived.Test.YtdfghdccbpnohaaTirE
namespace Go.Proofs.Ytdfghdccbpnohaa.tirw
open Go.RowKit mem tirm intm
set_option linter.unusedVariables false

def twoT : List Tr := [⟨10, 3⟩, ⟨0, 2⟩]
set_option maxRecDepth 100000 in
theorem two_any (m : Int) (w : World) : Calls Try.prog 17 #[.int .i64 m] w fun e w' => ∃ g, e = .returned (.agg #[.int .i64 1, .int .i64 m, .int .i64 1, .slice (some ⟨g, 0, none⟩) 2 2]) ∧ ReadsT w' (some ⟨g, 0, none⟩) 2 twoT ∧ Only (fun _ => False) w w' := by
  go_enter Try.func17, Try.ntmps17
  go_wp2_with fail
  refine bodyPost_ret (v := .agg #[.int .i64 1, .int .i64 m, .int .i64 1, .slice (some ⟨w.heap.size + 1, 0, none⟩) 2 2]) (by simp [results, Try.results17, go_sem]) rfl ⟨w.heap.size + 1, rfl, ⟨rfl, by omega, ?_, .inr ⟨w.heap.size + 1, 0, rfl, fun i hi => ?_⟩⟩, ((Only.refl _ w).alloc _).alloc _⟩
  · intro x hx
    simp [twoT] at hx
    rcases hx with rfl | rfl <;> (unfold InI; dsimp only; omega)
  · have h2 : i = 0 ∨ i = 1 := by omega
    rcases h2 with rfl | rfl
    · exact ⟨alloc_new _ _ _ _ _ _ (by simp) rfl, alloc_new _ _ _ _ _ _ (by simp) rfl⟩
    · exact ⟨alloc_new _ _ _ _ _ _ (by simp) rfl, alloc_new _ _ _ _ _ _ (by simp) rfl⟩

set_option maxRecDepth 100000 in
set_option maxHeartbeats 2000000 in
theorem tiers_any (w : World) : Calls Try.prog 7 #[] w fun e w' => e = .returned (.bool true) ∧ Only (fun _ => False) w w' := by
  have k1 : tchk 1 1 1 twoT = 0 := by decide
  have k2 : tchk 1 2 1 twoT = 0 := by decide
  have g1 : gradF (8 + 5) 0 8 twoT = [⟨0, 2, 3⟩, ⟨1, 3, 2⟩] := by kernel_rfl
  have g2 : (⟨idxF (8 + 5) 0 twoT, 5, (twoT.getD (idxF (8 + 5) 0 twoT).toNat default).p⟩ : Ln) = ⟨1, 5, 2⟩ := by kernel_rfl
  have HS1 : Hid (∀ g w, ReadsT w (some ⟨g, 0, none⟩) 2 twoT → Calls Try.prog 16 #[.agg #[.int .i64 1, .int .i64 1, .int .i64 1, .slice (some ⟨g, 0, none⟩) 2 2], .int .i64 8, .int .i64 5] w (LinesAt [⟨0, 2, 3⟩, ⟨1, 3, 2⟩] w)) := Lib.hid (fun g w h => by
    have := split_grad 1 1 (some ⟨g, 0, none⟩) 2 2 twoT 8 5 w h k1 (by omega) (by omega) (by omega) (by omega)
    rw [g1] at this
    exact this)
  have HS2 : Hid (∀ g w, ReadsT w (some ⟨g, 0, none⟩) 2 twoT → Calls Try.prog 16 #[.agg #[.int .i64 1, .int .i64 2, .int .i64 1, .slice (some ⟨g, 0, none⟩) 2 2], .int .i64 8, .int .i64 5] w (LinesAt [⟨1, 5, 2⟩] w)) := Lib.hid (fun g w h => by
    have := split_vol 1 1 (some ⟨g, 0, none⟩) 2 2 twoT 8 5 w h k2 (by omega) (by omega) (by omega) (by omega)
    rw [g2] at this
    exact this)
  clear k1 k2 g1 g2
  go_enter Try.func7, Try.ntmps7
  go_wp2_with fail
  refine (two_any 1 _).mono ?_
  rintro _ w1 ⟨g1, rfl, hr1, h1⟩
  go_wp2_with fail
  refine (HS1.out _ _ hr1).mono ?_
  rintro _ w2 ⟨a1, c1, rfl, hn1, h2⟩
  have H2 := Lib.hid (h1.trans h2)
  have HN1 := Lib.hid hn1
  clear h1 h2 hr1 hn1
  go_wp2_with fail
  refine (two_any 2 _).mono ?_
  rintro _ w3 ⟨g3, rfl, hr3, h3⟩
  go_wp2_with fail
  refine (HS2.out _ _ hr3).mono ?_
  rintro _ w4 ⟨a4, c4, rfl, hn4, h4⟩
  have H4 := Lib.hid (H2.out.trans (h3.trans h4))
  obtain ⟨b1, off1, rfl, hc1⟩ := (HN1.out.only (h3.trans h4) (fun _ _ f => f)).2.resolve_left (by simp)
  obtain ⟨b4, off4, rfl, hc4⟩ := hn4.2.resolve_left (by simp)
  have d0 := hc1 0 (by simp)
  have d1 := hc1 1 (by simp)
  have d4 := hc4 0 (by simp)
  simp at d0 d1 d4
  obtain ⟨d00, d01, d02⟩ := d0
  obtain ⟨d10, d11, d12⟩ := d1
  obtain ⟨d40, d41, d42⟩ := d4
  clear h3 h4 hr3 hn4 hc1 hc4 HN1
  go_wp2_with fail
  go_ret
  exact ⟨rfl, H4.out⟩
end Go.Proofs.Ytdfghdccbpnohaa.tirw

namespace Go.Proofs.Ytdfghdccbpnohaa.tirw
open Go.RowKit mem tirm intm
set_option linter.unusedVariables false

def encT (x : Tr) : List Value := [.int .i64 x.u, .int .i64 x.p]
def tv (ts : List Tr) : List Value := ts.flatMap encT
theorem tv_cons (x : Tr) (r : List Tr) : tv (x :: r) = encT x ++ tv r := by simp [tv]
theorem tv_length (ts : List Tr) : (tv ts).length = ts.length * 2 := by
  induction ts with
  | nil => rfl
  | cons x r ih => rw [tv_cons, List.length_append, ih, List.length_cons]; simp [encT]; omega
theorem tv_one (ts : List Tr) : ∀ u ∈ tv ts, u.oneCell' = true := by
  intro u hu
  simp only [tv, List.mem_flatMap] at hu
  obtain ⟨x, _, hx⟩ := hu
  simp [encT] at hx
  rcases hx with rfl | rfl <;> rfl
theorem tv_get : ∀ (ts : List Tr) (i c : Nat), i < ts.length → c < 2 → (tv ts)[i * 2 + c]? = (encT (ts.getD i default))[c]? := by
  intro ts
  induction ts with
  | nil => intro i c h; simp at h
  | cons x r ih =>
    intro i c hi hc
    have hx : (encT x).length = 2 := rfl
    rw [tv_cons]
    cases i with
    | zero =>
      rw [List.getElem?_append_left (by rw [hx]; omega)]
      simp [List.getD]
    | succ i =>
      rw [List.getElem?_append_right (by rw [hx]; omega), hx, show (i + 1) * 2 + c - 2 = i * 2 + c by omega, ih i c (by simpa using hi) hc]
      simp [List.getD]

/-- tiers that are handed in -/
def TiersR (w : World) (a : Option Addr) (len cap : Nat) (ts : List Tr) : Prop := ReadsT w a len ts ∧ len ≤ cap ∧ cap ≤ 9223372036854775807 ∧ (a = none → cap = 0)
theorem ReadsT.nil (w : World) (a : Option Addr) : ReadsT w a 0 [] := ⟨rfl, by omega, by simp, .inl rfl⟩
theorem ReadsT.take {w : World} {a : Option Addr} {len : Nat} {ts : List Tr} (h : ReadsT w a len ts) (n : Nat) (hn : n ≤ len) : ReadsT w a n (ts.take n) := by
  obtain ⟨hl, hm, hb, hc⟩ := h
  refine ⟨by simp; omega, by omega, fun c hc' => hb c (List.mem_of_mem_take hc'), ?_⟩
  rcases hc with h0 | ⟨b, off, ha, hcell⟩
  · exact .inl (by omega)
  · refine .inr ⟨b, off, ha, fun i hi => ?_⟩
    have : (ts.take n).getD i default = ts.getD i default := by simp [List.getD, hi]
    rw [this]; exact hcell i (by omega)
theorem own_readsT {w : World} {t : TypeId} {base g n cap : Nat} {ts : List Tr} (h : w.ownsRow base t 2 (.slice (some ⟨g, 0, none⟩) n cap) n (tv ts)) (hm : n ≤ 9223372036854775807) (hb : ∀ x ∈ ts, InI x.u ∧ InI x.p) : ReadsT w (some ⟨g, 0, none⟩) n ts := by
  have hl : ts.length = n := by have := h.1; rw [tv_length] at this; omega
  refine ⟨hl, hm, hb, .inr ⟨g, 0, rfl, fun i hi => ?_⟩⟩
  have e : ∀ c, c < 2 → w.cell? ⟨g, 0 + i * 2 + c, none⟩ = (encT (ts.getD i default))[c]? := fun c hc => by
    rw [Nat.zero_add, h.cellAt (i * 2 + c) (by omega), tv_get ts i c (by omega) hc]
  exact ⟨e 0 (by omega), e 1 (by omega)⟩
theorem newsT {w : World} {x : Addr} {n : Nat} {ts : List Tr} (h : ReadsT w (some x) n ts) : ∀ j u, (tv ts)[j]? = some u → w.cell? (x.add j) = some u := by
  intro j u hu
  have hj : j < ts.length * 2 := by
    rcases Nat.lt_or_ge j (ts.length * 2) with h' | h'
    · exact h'
    · rw [List.getElem?_eq_none (by rw [tv_length]; exact h')] at hu; cases hu
  rcases h.2.2.2 with h0 | ⟨b, off, ha, hc⟩
  · have := h.1; omega
  · obtain rfl : x = ⟨b, off, none⟩ := by injection ha
    rw [add_none]
    have hi : j / 2 < n := by have := h.1; omega
    obtain ⟨c0, c1⟩ := hc (j / 2) hi
    have hm : j % 2 = 0 ∨ j % 2 = 1 := by omega
    have hg := tv_get ts (j / 2) (j % 2) (by have := h.1; omega) (by omega)
    rw [show j / 2 * 2 + j % 2 = j by omega, hu] at hg
    rcases hm with hm | hm
    · rw [hm] at hg
      rw [show off + j = off + j / 2 * 2 by omega, c0, hg]
      rfl
    · rw [hm] at hg
      rw [show off + j = off + j / 2 * 2 + 1 by omega, c1, hg]
      rfl
theorem form_own {w : World} {base n size : Nat} {e : TypeId} {v : Value} {xs : List Value} (h : w.ownsRow base e size v n xs) (hne : v ≠ .slice none 0 0) : ∃ g cap, v = .slice (some ⟨g, 0, none⟩) n cap ∧ base ≤ g ∧ n ≤ cap := by
  rcases h.2 with ⟨hv, _⟩ | ⟨g, cap, cur, hv, hg, hh, hc, hm, _⟩
  · exact absurd hv hne
  · exact ⟨g, cap, hv, hg, hc⟩

/-- a box of four, there and not shared -/
def Four (w : World) (b : Nat) : Prop := (∃ u, w.cell? ⟨b, 0, none⟩ = some u) ∧ (∃ u, w.cell? ⟨b, 1, none⟩ = some u) ∧ (∃ u, w.cell? ⟨b, 2, none⟩ = some u) ∧ (∃ u, w.cell? ⟨b, 3, none⟩ = some u) ∧
  w.frozen? ⟨b, 0, none⟩ = false ∧ w.frozen? ⟨b, 1, none⟩ = false ∧ w.frozen? ⟨b, 2, none⟩ = false ∧ w.frozen? ⟨b, 3, none⟩ = false
theorem Four.new {w : World} {x0 x1 x2 x3 : Value} {t : TypeId} {g : Nat} (hg : g = w.heap.size) : Four (w.alloc (.cells #[x0, x1, x2, x3] t)) g :=
  ⟨⟨_, alloc_new _ _ _ _ _ _ hg rfl⟩, ⟨_, alloc_new _ _ _ _ _ _ hg rfl⟩, ⟨_, alloc_new _ _ _ _ _ _ hg rfl⟩, ⟨_, alloc_new _ _ _ _ _ _ hg rfl⟩, alloc_froz _ _ _ _ _ hg, alloc_froz _ _ _ _ _ hg, alloc_froz _ _ _ _ _ hg, alloc_froz _ _ _ _ _ hg⟩
theorem Four.only {S : Nat → Prop} {w w' : World} {b : Nat} (h : Four w b) (ho : Only S w w') (hs : ¬ S b) : Four w' b := by
  obtain ⟨⟨u0, h0⟩, ⟨u1, h1⟩, ⟨u2, h2⟩, ⟨u3, h3⟩, f0, f1, f2, f3⟩ := h
  have hlt : b < w.heap.size := World.block_lt_of_cell? w _ h0
  exact ⟨⟨u0, ho.cell' h0 hs⟩, ⟨u1, ho.cell' h1 hs⟩, ⟨u2, ho.cell' h2 hs⟩, ⟨u3, ho.cell' h3 hs⟩, (ho.frozen (p := ⟨b, 0, none⟩) hlt hs).trans f0, (ho.frozen (p := ⟨b, 1, none⟩) hlt hs).trans f1, (ho.frozen (p := ⟨b, 2, none⟩) hlt hs).trans f2, (ho.frozen (p := ⟨b, 3, none⟩) hlt hs).trans f3⟩
theorem Four.set {w : World} {b : Nat} (h : Four w b) (x0 x1 x2 x3 : Value) :
    ((((w.setCell ⟨b, 0, none⟩ x0).setCell ⟨b, 1, none⟩ x1).setCell ⟨b, 2, none⟩ x2).setCell ⟨b, 3, none⟩ x3).cell? ⟨b, 0, none⟩ = some x0 ∧
    ((((w.setCell ⟨b, 0, none⟩ x0).setCell ⟨b, 1, none⟩ x1).setCell ⟨b, 2, none⟩ x2).setCell ⟨b, 3, none⟩ x3).cell? ⟨b, 1, none⟩ = some x1 ∧
    ((((w.setCell ⟨b, 0, none⟩ x0).setCell ⟨b, 1, none⟩ x1).setCell ⟨b, 2, none⟩ x2).setCell ⟨b, 3, none⟩ x3).cell? ⟨b, 2, none⟩ = some x2 ∧
    ((((w.setCell ⟨b, 0, none⟩ x0).setCell ⟨b, 1, none⟩ x1).setCell ⟨b, 2, none⟩ x2).setCell ⟨b, 3, none⟩ x3).cell? ⟨b, 3, none⟩ = some x3 ∧
    Only (fun q => q = b) w ((((w.setCell ⟨b, 0, none⟩ x0).setCell ⟨b, 1, none⟩ x1).setCell ⟨b, 2, none⟩ x2).setCell ⟨b, 3, none⟩ x3) := by
  obtain ⟨⟨u0, h0⟩, ⟨u1, h1⟩, ⟨u2, h2⟩, ⟨u3, h3⟩, _⟩ := h
  refine ⟨?_, ?_, ?_, ?_, ?_⟩
  · rw [cell_other (off_ne (by omega)), cell_other (off_ne (by omega)), cell_other (off_ne (by omega)), cell_same h0]
  · rw [cell_other (off_ne (by omega)), cell_other (off_ne (by omega))]
    exact cell_same (by rw [cell_other (off_ne (by omega))]; exact h1)
  · rw [cell_other (off_ne (by omega))]
    exact cell_same (by rw [cell_other (off_ne (by omega)), cell_other (off_ne (by omega))]; exact h2)
  · exact cell_same (by rw [cell_other (off_ne (by omega)), cell_other (off_ne (by omega)), cell_other (off_ne (by omega))]; exact h3)
  · exact ((((Only.refl (fun q => q = b) w).setCell (p := ⟨b, 0, none⟩) (.inl rfl) _).setCell (p := ⟨b, 1, none⟩) (.inl rfl) _).setCell (p := ⟨b, 2, none⟩) (.inl rfl) _).setCell (p := ⟨b, 3, none⟩) (.inl rfl) _

def TamedAt (G M B : Int) (ts : List Tr) (w : World) (e : Ending) (w' : World) : Prop :=
  ∃ g cp, e = .returned (.agg #[.int .i64 G, .int .i64 M, .int .i64 B, .slice (some ⟨g, 0, none⟩) ts.length cp]) ∧ ReadsT w' (some ⟨g, 0, none⟩) ts.length ts ∧ ts.length ≤ cp ∧ w.heap.size ≤ g ∧ Only (fun _ => False) w w'

end Go.Proofs.Ytdfghdccbpnohaa.tirw

namespace Go.Proofs.Ytdfghdccbpnohaa.tirw
open Go.RowKit mem tirm intm
set_option linter.unusedVariables false

theorem u64_wrapT (n : Int) : IntKind.u64.wrap n = n % 18446744073709551616 := by rfl
/-- a tariff's four cells -/
def TarAt (w : World) (q : Nat) (G M B : Int) (v : Value) : Prop := w.cell? ⟨q, 0, none⟩ = some (.int .i64 G) ∧ w.cell? ⟨q, 1, none⟩ = some (.int .i64 M) ∧ w.cell? ⟨q, 2, none⟩ = some (.int .i64 B) ∧ w.cell? ⟨q, 3, none⟩ = some v
theorem TarAt.only {S : Nat → Prop} {w w' : World} {q : Nat} {G M B : Int} {v : Value} (h : TarAt w q G M B v) (ho : Only S w w') (hs : ¬ S q) : TarAt w' q G M B v :=
  ⟨ho.cell' h.1 hs, ho.cell' h.2.1 hs, ho.cell' h.2.2.1 hs, ho.cell' h.2.2.2 hs⟩

end Go.Proofs.Ytdfghdccbpnohaa.tirw

