/- Tariffs: the law's tame: no more than nine tiers, in memory of the call's own. -/
import Derived.Test.YtcglhenbcdkkmaaTirF
namespace Go.Proofs.Ytcglhenbcdkkmaa.tirw
open Go.RowKit mem tirm intm
set_option linter.unusedVariables false

def encT (x : Tr) : List Value := [.int .i64 x.u, .int .i64 x.p]
def tv (ts : List Tr) : List Value := ts.flatMap encT
theorem tv_cons (x : Tr) (r : List Tr) : tv (x :: r) = encT x ++ tv r := by simp [tv]
theorem tv_length (ts : List Tr) : (tv ts).length = ts.length * 2 := by
  induction ts with
  | nil => rfl
  | cons x r ih => rw [tv_cons, List.length_append, ih, List.length_cons]; simp [encT]; omega
theorem tv_one (ts : List Tr) : ∀ u ∈ tv ts, u.oneCell' = true := by
  intro u hu
  simp only [tv, List.mem_flatMap] at hu
  obtain ⟨x, _, hx⟩ := hu
  simp [encT] at hx
  rcases hx with rfl | rfl <;> rfl
theorem tv_get : ∀ (ts : List Tr) (i c : Nat), i < ts.length → c < 2 → (tv ts)[i * 2 + c]? = (encT (ts.getD i default))[c]? := by
  intro ts
  induction ts with
  | nil => intro i c h; simp at h
  | cons x r ih =>
    intro i c hi hc
    have hx : (encT x).length = 2 := rfl
    rw [tv_cons]
    cases i with
    | zero =>
      rw [List.getElem?_append_left (by rw [hx]; omega)]
      simp [List.getD]
    | succ i =>
      rw [List.getElem?_append_right (by rw [hx]; omega), hx, show (i + 1) * 2 + c - 2 = i * 2 + c by omega, ih i c (by simpa using hi) hc]
      simp [List.getD]

/-- tiers that are handed in -/
def TiersR (w : World) (a : Option Addr) (len cap : Nat) (ts : List Tr) : Prop := ReadsT w a len ts ∧ len ≤ cap ∧ cap ≤ 9223372036854775807 ∧ (a = none → cap = 0)
theorem ReadsT.nil (w : World) (a : Option Addr) : ReadsT w a 0 [] := ⟨rfl, by omega, by simp, .inl rfl⟩
theorem ReadsT.take {w : World} {a : Option Addr} {len : Nat} {ts : List Tr} (h : ReadsT w a len ts) (n : Nat) (hn : n ≤ len) : ReadsT w a n (ts.take n) := by
  obtain ⟨hl, hm, hb, hc⟩ := h
  refine ⟨by simp; omega, by omega, fun c hc' => hb c (List.mem_of_mem_take hc'), ?_⟩
  rcases hc with h0 | ⟨b, off, ha, hcell⟩
  · exact .inl (by omega)
  · refine .inr ⟨b, off, ha, fun i hi => ?_⟩
    have : (ts.take n).getD i default = ts.getD i default := by simp [List.getD, hi]
    rw [this]; exact hcell i (by omega)
theorem own_readsT {w : World} {t : TypeId} {base g n cap : Nat} {ts : List Tr} (h : w.ownsRow base t 2 (.slice (some ⟨g, 0, none⟩) n cap) n (tv ts)) (hm : n ≤ 9223372036854775807) (hb : ∀ x ∈ ts, InI x.u ∧ InI x.p) : ReadsT w (some ⟨g, 0, none⟩) n ts := by
  have hl : ts.length = n := by have := h.1; rw [tv_length] at this; omega
  refine ⟨hl, hm, hb, .inr ⟨g, 0, rfl, fun i hi => ?_⟩⟩
  have e : ∀ c, c < 2 → w.cell? ⟨g, 0 + i * 2 + c, none⟩ = (encT (ts.getD i default))[c]? := fun c hc => by
    rw [Nat.zero_add, h.cellAt (i * 2 + c) (by omega), tv_get ts i c (by omega) hc]
  exact ⟨e 0 (by omega), e 1 (by omega)⟩
theorem newsT {w : World} {x : Addr} {n : Nat} {ts : List Tr} (h : ReadsT w (some x) n ts) : ∀ j u, (tv ts)[j]? = some u → w.cell? (x.add j) = some u := by
  intro j u hu
  have hj : j < ts.length * 2 := by
    rcases Nat.lt_or_ge j (ts.length * 2) with h' | h'
    · exact h'
    · rw [List.getElem?_eq_none (by rw [tv_length]; exact h')] at hu; cases hu
  rcases h.2.2.2 with h0 | ⟨b, off, ha, hc⟩
  · have := h.1; omega
  · obtain rfl : x = ⟨b, off, none⟩ := by injection ha
    rw [add_none]
    have hi : j / 2 < n := by have := h.1; omega
    obtain ⟨c0, c1⟩ := hc (j / 2) hi
    have hm : j % 2 = 0 ∨ j % 2 = 1 := by omega
    have hg := tv_get ts (j / 2) (j % 2) (by have := h.1; omega) (by omega)
    rw [show j / 2 * 2 + j % 2 = j by omega, hu] at hg
    rcases hm with hm | hm
    · rw [hm] at hg
      rw [show off + j = off + j / 2 * 2 by omega, c0, hg]
      rfl
    · rw [hm] at hg
      rw [show off + j = off + j / 2 * 2 + 1 by omega, c1, hg]
      rfl
theorem form_own {w : World} {base n size : Nat} {e : TypeId} {v : Value} {xs : List Value} (h : w.ownsRow base e size v n xs) (hne : v ≠ .slice none 0 0) : ∃ g cap, v = .slice (some ⟨g, 0, none⟩) n cap ∧ base ≤ g ∧ n ≤ cap := by
  rcases h.2 with ⟨hv, _⟩ | ⟨g, cap, cur, hv, hg, hh, hc, hm, _⟩
  · exact absurd hv hne
  · exact ⟨g, cap, hv, hg, hc⟩

/-- a box of four, there and not shared -/
def Four (w : World) (b : Nat) : Prop := (∃ u, w.cell? ⟨b, 0, none⟩ = some u) ∧ (∃ u, w.cell? ⟨b, 1, none⟩ = some u) ∧ (∃ u, w.cell? ⟨b, 2, none⟩ = some u) ∧ (∃ u, w.cell? ⟨b, 3, none⟩ = some u) ∧
  w.frozen? ⟨b, 0, none⟩ = false ∧ w.frozen? ⟨b, 1, none⟩ = false ∧ w.frozen? ⟨b, 2, none⟩ = false ∧ w.frozen? ⟨b, 3, none⟩ = false
theorem Four.new {w : World} {x0 x1 x2 x3 : Value} {t : TypeId} {g : Nat} (hg : g = w.heap.size) : Four (w.alloc (.cells #[x0, x1, x2, x3] t)) g :=
  ⟨⟨_, alloc_new _ _ _ _ _ _ hg rfl⟩, ⟨_, alloc_new _ _ _ _ _ _ hg rfl⟩, ⟨_, alloc_new _ _ _ _ _ _ hg rfl⟩, ⟨_, alloc_new _ _ _ _ _ _ hg rfl⟩, alloc_froz _ _ _ _ _ hg, alloc_froz _ _ _ _ _ hg, alloc_froz _ _ _ _ _ hg, alloc_froz _ _ _ _ _ hg⟩
theorem Four.only {S : Nat → Prop} {w w' : World} {b : Nat} (h : Four w b) (ho : Only S w w') (hs : ¬ S b) : Four w' b := by
  obtain ⟨⟨u0, h0⟩, ⟨u1, h1⟩, ⟨u2, h2⟩, ⟨u3, h3⟩, f0, f1, f2, f3⟩ := h
  have hlt : b < w.heap.size := World.block_lt_of_cell? w _ h0
  exact ⟨⟨u0, ho.cell' h0 hs⟩, ⟨u1, ho.cell' h1 hs⟩, ⟨u2, ho.cell' h2 hs⟩, ⟨u3, ho.cell' h3 hs⟩, (ho.frozen (p := ⟨b, 0, none⟩) hlt hs).trans f0, (ho.frozen (p := ⟨b, 1, none⟩) hlt hs).trans f1, (ho.frozen (p := ⟨b, 2, none⟩) hlt hs).trans f2, (ho.frozen (p := ⟨b, 3, none⟩) hlt hs).trans f3⟩
theorem Four.set {w : World} {b : Nat} (h : Four w b) (x0 x1 x2 x3 : Value) :
    ((((w.setCell ⟨b, 0, none⟩ x0).setCell ⟨b, 1, none⟩ x1).setCell ⟨b, 2, none⟩ x2).setCell ⟨b, 3, none⟩ x3).cell? ⟨b, 0, none⟩ = some x0 ∧
    ((((w.setCell ⟨b, 0, none⟩ x0).setCell ⟨b, 1, none⟩ x1).setCell ⟨b, 2, none⟩ x2).setCell ⟨b, 3, none⟩ x3).cell? ⟨b, 1, none⟩ = some x1 ∧
    ((((w.setCell ⟨b, 0, none⟩ x0).setCell ⟨b, 1, none⟩ x1).setCell ⟨b, 2, none⟩ x2).setCell ⟨b, 3, none⟩ x3).cell? ⟨b, 2, none⟩ = some x2 ∧
    ((((w.setCell ⟨b, 0, none⟩ x0).setCell ⟨b, 1, none⟩ x1).setCell ⟨b, 2, none⟩ x2).setCell ⟨b, 3, none⟩ x3).cell? ⟨b, 3, none⟩ = some x3 ∧
    Only (fun q => q = b) w ((((w.setCell ⟨b, 0, none⟩ x0).setCell ⟨b, 1, none⟩ x1).setCell ⟨b, 2, none⟩ x2).setCell ⟨b, 3, none⟩ x3) := by
  obtain ⟨⟨u0, h0⟩, ⟨u1, h1⟩, ⟨u2, h2⟩, ⟨u3, h3⟩, _⟩ := h
  refine ⟨?_, ?_, ?_, ?_, ?_⟩
  · rw [cell_other (off_ne (by omega)), cell_other (off_ne (by omega)), cell_other (off_ne (by omega)), cell_same h0]
  · rw [cell_other (off_ne (by omega)), cell_other (off_ne (by omega))]
    exact cell_same (by rw [cell_other (off_ne (by omega))]; exact h1)
  · rw [cell_other (off_ne (by omega))]
    exact cell_same (by rw [cell_other (off_ne (by omega)), cell_other (off_ne (by omega))]; exact h2)
  · exact cell_same (by rw [cell_other (off_ne (by omega)), cell_other (off_ne (by omega)), cell_other (off_ne (by omega))]; exact h3)
  · exact ((((Only.refl (fun q => q = b) w).setCell (p := ⟨b, 0, none⟩) (.inl rfl) _).setCell (p := ⟨b, 1, none⟩) (.inl rfl) _).setCell (p := ⟨b, 2, none⟩) (.inl rfl) _).setCell (p := ⟨b, 3, none⟩) (.inl rfl) _

def TamedAt (G M B : Int) (ts : List Tr) (w : World) (e : Ending) (w' : World) : Prop :=
  ∃ g cp, e = .returned (.agg #[.int .i64 G, .int .i64 M, .int .i64 B, .slice (some ⟨g, 0, none⟩) ts.length cp]) ∧ ReadsT w' (some ⟨g, 0, none⟩) ts.length ts ∧ ts.length ≤ cp ∧ w.heap.size ≤ g ∧ Only (fun _ => False) w w'

set_option maxRecDepth 100000 in
set_option maxHeartbeats 2000000 in
theorem tame_any (G M B : Int) (a : Option Addr) (len cap n : Nat) (ts : List Tr) (w : World) (h : TiersR w a len cap ts) (hn : n = min len 9) :
    Calls Try.prog 22 #[.agg #[.int .i64 G, .int .i64 M, .int .i64 B, .slice a len cap]] w (TamedAt G M B (ts.take n) w) := by
  obtain ⟨i0, hi, hz0, hz1, hz2⟩ := info_parts info_tier
  obtain ⟨hr, hlc, hcm, hnone⟩ := h
  have hn70 : n ≤ 9 := by omega
  have hnl : n ≤ len := by omega
  have HR : Hid (ReadsT w a n (ts.take n)) := Lib.hid (hr.take n (by omega))
  have hlen : (ts.take n).length = n := HR.out.1
  unfold TamedAt
  rw [hlen]
  generalize ts.take n = l' at *
  rcases a with _ | x
  · obtain rfl : cap = 0 := hnone rfl
    obtain rfl : len = 0 := by omega
    obtain rfl : n = 0 := by omega
    have hm0 : min (0 : Int) 9 = 0 := by decide
    clear hr hnone hn
    have HN : Hid (l' = []) := Lib.hid (List.eq_nil_of_length_eq_zero hlen)
    clear hlen
    go_enter Try.func22, Try.ntmps22
    go_wp2_with fail
    refine bodyPost_ret (v := .agg #[.int .i64 G, .int .i64 M, .int .i64 B, .slice (some ⟨w.heap.size + 1 + 1, 0, none⟩) 0 0]) (by simp [results, Try.results22, go_sem]) rfl ⟨_, 0, rfl, by rw [HN.out]; exact ReadsT.nil _ _, Nat.le_refl _, by omega, (((Only.refl _ w).alloc _).alloc _).alloc _⟩
  · have hmin : min (len : Int) 9 = (n : Int) := by omega
    have HNL := Lib.hid hn
    have HIN : Hid (∀ x ∈ l', InI x.u ∧ InI x.p) := Lib.hid HR.out.2.2.1
    have HN2 := Lib.hid hlen
    have hni : (0 : Int) ≤ (n : Int) := by omega
    have hnc : (n : Int) ≤ (cap : Int) := by omega
    obtain ⟨W0, hW0⟩ : ∃ W0, W0 = ((w.alloc (.cells #[.int .i64 G, .int .i64 M, .int .i64 B, .slice (some x) len cap] 32)).alloc (.cells #[.int .i64 0, .int .i64 0, .int .i64 0, .slice none 0 0] 32)).alloc (.cells #[] 43) := ⟨_, rfl⟩
    have HO0 : Hid (Only (fun _ => False) w W0) := Lib.hid (by rw [hW0]; exact (((Only.refl _ w).alloc _).alloc _).alloc _)
    have HP : Hid (W0.ownsRow (w.heap.size + 2) 43 2 (.slice (some ⟨w.heap.size + 1 + 1, 0, none⟩) 0 0) 0 (tv [])) := Lib.hid (by
      rw [hW0]
      have := World.ownsRow_lit (base := w.heap.size + 2) (e := 43) (size := 2) ((w.alloc (.cells #[.int .i64 G, .int .i64 M, .int .i64 B, .slice (some x) len cap] 32)).alloc (.cells #[.int .i64 0, .int .i64 0, .int .i64 0, .slice none 0 0] 32)) #[] 0 (by simp) (by decide) rfl
      have e : ((w.alloc (.cells #[.int .i64 G, .int .i64 M, .int .i64 B, .slice (some x) len cap] 32)).alloc (.cells #[.int .i64 0, .int .i64 0, .int .i64 0, .slice none 0 0] 32)).heap.size = w.heap.size + 1 + 1 := by simp
      rw [e] at this
      exact this)
    have HTB : Hid (W0.cell? ⟨w.heap.size, 0, none⟩ = some (.int .i64 G) ∧ W0.cell? ⟨w.heap.size, 1, none⟩ = some (.int .i64 M) ∧ W0.cell? ⟨w.heap.size, 2, none⟩ = some (.int .i64 B) ∧ W0.cell? ⟨w.heap.size, 3, none⟩ = some (.slice (some x) len cap)) := Lib.hid (by
      rw [hW0]
      have ho : Only (fun _ => False) (w.alloc (.cells #[.int .i64 G, .int .i64 M, .int .i64 B, .slice (some x) len cap] 32)) (((w.alloc (.cells #[.int .i64 G, .int .i64 M, .int .i64 B, .slice (some x) len cap] 32)).alloc (.cells #[.int .i64 0, .int .i64 0, .int .i64 0, .slice none 0 0] 32)).alloc (.cells #[] 43)) := ((Only.refl _ _).alloc _).alloc _
      exact ⟨ho.cell' (alloc_new _ _ _ _ _ _ rfl rfl) (fun f => f), ho.cell' (alloc_new _ _ _ _ _ _ rfl rfl) (fun f => f), ho.cell' (alloc_new _ _ _ _ _ _ rfl rfl) (fun f => f), ho.cell' (alloc_new _ _ _ _ _ _ rfl rfl) (fun f => f)⟩)
    have HFT : Hid (Four W0 w.heap.size) := Lib.hid (by rw [hW0]; exact (Four.new rfl).only (((Only.refl (fun _ => False) _).alloc _).alloc _) (fun f => f))
    have HFR : Hid (Four W0 (w.heap.size + 1)) := Lib.hid (by rw [hW0]; exact (Four.new (by simp)).only ((Only.refl (fun _ => False) _).alloc _) (fun f => f))
    have HRW : Hid (ReadsT W0 (some x) n l') := Lib.hid (HR.out.only HO0.out (fun _ _ f => f))
    rw [hW0] at HP HRW
    have HW0 := Lib.hid hW0
    have hn9 : (len ≤ 9 ∧ n = len) ∨ (9 < len ∧ n = 9) := by omega
    clear hr hnone hn hlen hW0 hmin
    rcases hn9 with ⟨h9, rfl⟩ | ⟨h9, rfl⟩
    · have h99 : (n : Int) ≤ 9 := by omega
      go_enter Try.func22, Try.ntmps22
      go_wp2_with (at_builtin; refine wpList_append_own _ rfl _ _ 30 rfl (w.heap.size + 2) 43 i0 _ 2 16 Try.underlying30 hi hz0 hz1 hz2 rfl (by decide) _ 0 _ rfl HP.out x n cap (tv l') rfl ?c1 ?c2 ?c3 ?c4 ?c5 ?c6 ?_)
      case c1 => rw [tv_length, HN2.out]
      case c2 => exact newsT HRW.out
      case c3 => exact tv_one l'
      case c4 => unfold maxLen; omega
      case c5 => omega
      case c6 => simp
      intro v2 w2 hown hgrow hne
      obtain ⟨g, cp, rfl, hg, hcp⟩ := form_own hown (fun e => hne e)
      rw [← HW0.out] at hgrow
      have HGR : Hid (Only (fun q => q = w.heap.size + 1 + 1) W0 w2) := Lib.hid ((Only.of_grown hgrow).mono (fun q _ hq => by
        have : w.heap.size + 1 + 1 = q := by simpa [Value.ownBlock] using hq
        omega))
      have HRD := Lib.hid (own_readsT hown (by omega) HIN.out)
      have c0 := HGR.out.cell' HTB.out.1 (fun e => by have e' : w.heap.size = w.heap.size + 1 + 1 := e; omega)
      have c1 := HGR.out.cell' HTB.out.2.1 (fun e => by have e' : w.heap.size = w.heap.size + 1 + 1 := e; omega)
      have c2 := HGR.out.cell' HTB.out.2.2.1 (fun e => by have e' : w.heap.size = w.heap.size + 1 + 1 := e; omega)
      have c3 := HGR.out.cell' HTB.out.2.2.2 (fun e => by have e' : w.heap.size = w.heap.size + 1 + 1 := e; omega)
      obtain ⟨_, _, _, _, _, _, _, f3⟩ := HFT.out.only HGR.out (fun e => by have e' : w.heap.size = w.heap.size + 1 + 1 := e; omega)
      have HST : Hid (Only (fun q => q = w.heap.size) w2 (w2.setCell ⟨w.heap.size, 3, none⟩ (.slice (some ⟨g, 0, none⟩) n cp))) := Lib.hid (Only.set (fun q => q = w.heap.size) w2 w.heap.size 3 _ rfl)
      have HR4 := (HFR.out.only HGR.out (fun e => by have e' : w.heap.size + 1 = w.heap.size + 1 + 1 := e; omega)).only HST.out (fun e => by have e' : w.heap.size + 1 = w.heap.size := e; omega)
      have HE := Lib.hid (HR4.set (.int .i64 G) (.int .i64 M) (.int .i64 B) (.slice (some ⟨g, 0, none⟩) n cp))
      obtain ⟨⟨_, r0⟩, ⟨_, r1⟩, ⟨_, r2⟩, ⟨_, r3⟩, g0, g1, g2, g3⟩ := HR4
      have e0 : (w2.setCell ⟨w.heap.size, 3, none⟩ (.slice (some ⟨g, 0, none⟩) n cp)).cell? ⟨w.heap.size, 3, none⟩ = some (.slice (some ⟨g, 0, none⟩) n cp) := cell_same c3
      clear hown hgrow hne HP HRW
      go_wp2_with fail
      refine bodyPost_ret (v := .agg #[.int .i64 G, .int .i64 M, .int .i64 B, .slice (some ⟨g, 0, none⟩) n cp]) (by simp [results, Try.results22, go_sem, HE.out.1, HE.out.2.1, HE.out.2.2.1, HE.out.2.2.2.1]) rfl ⟨g, cp, rfl, ?_, by omega, by omega, ?_⟩
      · exact (HRD.out.only HST.out (fun y hy e => by injection hy with hy; subst hy; have e' : g = w.heap.size := e; omega)).only HE.out.2.2.2.2 (fun y hy e => by injection hy with hy; subst hy; have e' : g = w.heap.size + 1 := e; omega)
      · exact ((HO0.out.then HGR.out (fun q hq e => by have e' : q = w.heap.size + 1 + 1 := e; omega)).then HST.out (fun q hq e => by have e' : q = w.heap.size := e; omega)).then HE.out.2.2.2.2 (fun q hq e => by have e' : q = w.heap.size + 1 := e; omega)
    · have h99 : (9 : Int) < (len : Int) := by omega
      go_enter Try.func22, Try.ntmps22
      go_wp2_with (at_builtin; refine wpList_append_own _ rfl _ _ 30 rfl (w.heap.size + 2) 43 i0 _ 2 16 Try.underlying30 hi hz0 hz1 hz2 rfl (by decide) _ 0 _ rfl HP.out x 9 cap (tv l') rfl ?c1 ?c2 ?c3 ?c4 ?c5 ?c6 ?_)
      case c1 => rw [tv_length, HN2.out]
      case c2 => exact newsT HRW.out
      case c3 => exact tv_one l'
      case c4 => unfold maxLen; omega
      case c5 => omega
      case c6 => simp
      intro v2 w2 hown hgrow hne
      obtain ⟨g, cp, rfl, hg, hcp⟩ := form_own hown (fun e => hne e)
      rw [← HW0.out] at hgrow
      have HGR : Hid (Only (fun q => q = w.heap.size + 1 + 1) W0 w2) := Lib.hid ((Only.of_grown hgrow).mono (fun q _ hq => by
        have : w.heap.size + 1 + 1 = q := by simpa [Value.ownBlock] using hq
        omega))
      have HRD := Lib.hid (own_readsT hown (by omega) HIN.out)
      have c0 := HGR.out.cell' HTB.out.1 (fun e => by have e' : w.heap.size = w.heap.size + 1 + 1 := e; omega)
      have c1 := HGR.out.cell' HTB.out.2.1 (fun e => by have e' : w.heap.size = w.heap.size + 1 + 1 := e; omega)
      have c2 := HGR.out.cell' HTB.out.2.2.1 (fun e => by have e' : w.heap.size = w.heap.size + 1 + 1 := e; omega)
      have c3 := HGR.out.cell' HTB.out.2.2.2 (fun e => by have e' : w.heap.size = w.heap.size + 1 + 1 := e; omega)
      obtain ⟨_, _, _, _, _, _, _, f3⟩ := HFT.out.only HGR.out (fun e => by have e' : w.heap.size = w.heap.size + 1 + 1 := e; omega)
      have HST : Hid (Only (fun q => q = w.heap.size) w2 (w2.setCell ⟨w.heap.size, 3, none⟩ (.slice (some ⟨g, 0, none⟩) 9 cp))) := Lib.hid (Only.set (fun q => q = w.heap.size) w2 w.heap.size 3 _ rfl)
      have HR4 := (HFR.out.only HGR.out (fun e => by have e' : w.heap.size + 1 = w.heap.size + 1 + 1 := e; omega)).only HST.out (fun e => by have e' : w.heap.size + 1 = w.heap.size := e; omega)
      have HE := Lib.hid (HR4.set (.int .i64 G) (.int .i64 M) (.int .i64 B) (.slice (some ⟨g, 0, none⟩) 9 cp))
      obtain ⟨⟨_, r0⟩, ⟨_, r1⟩, ⟨_, r2⟩, ⟨_, r3⟩, g0, g1, g2, g3⟩ := HR4
      have e0 : (w2.setCell ⟨w.heap.size, 3, none⟩ (.slice (some ⟨g, 0, none⟩) 9 cp)).cell? ⟨w.heap.size, 3, none⟩ = some (.slice (some ⟨g, 0, none⟩) 9 cp) := cell_same c3
      clear hown hgrow hne HP HRW
      go_wp2_with fail
      refine bodyPost_ret (v := .agg #[.int .i64 G, .int .i64 M, .int .i64 B, .slice (some ⟨g, 0, none⟩) 9 cp]) (by simp [results, Try.results22, go_sem, HE.out.1, HE.out.2.1, HE.out.2.2.1, HE.out.2.2.2.1]) rfl ⟨g, cp, rfl, ?_, by omega, by omega, ?_⟩
      · exact (HRD.out.only HST.out (fun y hy e => by injection hy with hy; subst hy; have e' : g = w.heap.size := e; omega)).only HE.out.2.2.2.2 (fun y hy e => by injection hy with hy; subst hy; have e' : g = w.heap.size + 1 := e; omega)
      · exact ((HO0.out.then HGR.out (fun q hq e => by have e' : q = w.heap.size + 1 + 1 := e; omega)).then HST.out (fun q hq e => by have e' : q = w.heap.size := e; omega)).then HE.out.2.2.2.2 (fun q hq e => by have e' : q = w.heap.size + 1 := e; omega)
end Go.Proofs.Ytcglhenbcdkkmaa.tirw
