/- Lines that come in opened; the law's few; TierCosts's walk. -/
import Derived.Test.YtdfghdccbpnohaaTirO
import Derived.Test.YtdfghdccbpnohaaTirCo
import Derived.Test.YtdfghdccbpnohaaTirG
namespace Go.Proofs.Ytdfghdccbpnohaa.tirw
open Go.RowKit mem tirm intm bigm bigw
open Go.ChangeShapes Go.WideShapes Go.ChangeAt
set_option linter.unusedVariables false

/-- lines that are handed in -/
def LinesR (w : World) (a : Option Addr) (len cap : Nat) (ls : List Ln) : Prop := ReadsN w a len ls ∧ LnsI ls ∧ len ≤ cap ∧ cap ≤ 9223372036854775807 ∧ (a = none → cap = 0)

section
variable {H : Type} {enc : TypeId × Value → H} {w : World} {base : Nat}

set_option maxRecDepth 100000 in
theorem lines_open {fuel : Nat} {ao : Option Addr} {len cap : Nat} {x : DataW H × List MemPlace} (h : DataW.trod enc Try.prog w base (fun _ => true) true fuel 22 [.slice ao len cap] = some x) : ∃ ts, LinesR w ao len cap ts := by
  rcases Go.Deep.open_slice Try.underlying22 h with ⟨hcs, _⟩ | ⟨a, len2, cap2, m, n, D, Pl, hcs, hb, hl, hm, hmm, hx, hi⟩
  · simp at hcs
    obtain ⟨rfl, rfl, rfl⟩ := hcs
    exact ⟨[], ⟨rfl, .inl rfl⟩, (fun x hx => by cases hx), by omega, by omega, fun _ => rfl⟩
  · simp at hcs
    obtain ⟨rfl, rfl, rfl⟩ := hcs
    unfold maxLen at hm
    simp at hmm
    have hC : Try.prog.cellsOf 32 = 3 := by kernel_rfl
    rw [hC] at hi
    have key : ∀ i, i < len → ∃ l : Ln, (InI l.t ∧ InI l.b ∧ InI l.p) ∧ w.cell? ((a.add (i * 3)).add 0) = some (.int .i64 l.t) ∧ w.cell? ((a.add (i * 3)).add 1) = some (.int .i64 l.b) ∧ w.cell? ((a.add (i * 3)).add 2) = some (.int .i64 l.p) := by
      intro i hil
      obtain ⟨cs', hc, ht'⟩ := hi i (by omega)
      obtain ⟨ys, n', _, _, hlen, hyl, hf⟩ := DataW.trod_struct Try.underlying32 ht'
      obtain ⟨_, hcl, hat⟩ := World.cells?_some hc
      match cs', ys, hcl, hyl, hat, hf with
      | [c0, c1, c2], [y0, y1, y2], _, _, hat, hf =>
        have f0 := hf 0 _ rfl
        have f1 := hf 1 _ rfl
        have f2 := hf 2 _ rfl
        have o3 : Try.prog.cellsOf 3 = 1 := by kernel_rfl
        simp [o3] at f0 f1 f2
        obtain ⟨k0, hk0, _, w0⟩ := DataW.trod_int Try.underlying3 f0
        obtain ⟨k1, hk1, _, w1⟩ := DataW.trod_int Try.underlying3 f1
        obtain ⟨k2, hk2, _, w2⟩ := DataW.trod_int Try.underlying3 f2
        simp at hk0 hk1 hk2
        subst hk0 hk1 hk2
        exact ⟨⟨k0, k1, k2⟩, ⟨int_of_wf w0, int_of_wf w1, int_of_wf w2⟩, by simpa using hat 0 (by omega), by simpa using hat 1 (by omega), by simpa using hat 2 (by omega)⟩
    by_cases h0 : len = 0
    · subst h0
      exact ⟨[], ⟨rfl, .inl rfl⟩, (fun x hx => by cases hx), hl, hm, fun e => by cases e⟩
    · obtain ⟨b, off, spot⟩ := a
      obtain ⟨l0, _, d0, _, _⟩ := key 0 (by omega)
      have hspot : spot = none := by simpa [Addr.add] using World.cell?_spot d0
      subst hspot
      refine ⟨(List.range len).map (fun i => ⟨intV (w.cell? ⟨b, off + i * 3, none⟩), intV (w.cell? ⟨b, off + i * 3 + 1, none⟩), intV (w.cell? ⟨b, off + i * 3 + 2, none⟩)⟩), ⟨by simp, .inr ⟨b, off, rfl, fun i hil => ?_⟩⟩, ?_, hl, hm, fun e => by cases e⟩
      rotate_left
      · intro l hl'
        obtain ⟨i, hi', rfl⟩ := List.mem_map.1 hl'
        obtain ⟨l1, hin, d0, d1, d2⟩ := key i (List.mem_range.1 hi')
        rw [add_none, add_none] at d0 d1 d2
        rw [Nat.add_zero] at d0
        rw [d0, d1, d2]
        exact hin
      · obtain ⟨l1, hin, d0, d1, d2⟩ := key i hil
        rw [add_none, add_none] at d0 d1 d2
        rw [Nat.add_zero] at d0
        have e : ((List.range len).map (fun i => (⟨intV (w.cell? ⟨b, off + i * 3, none⟩), intV (w.cell? ⟨b, off + i * 3 + 1, none⟩), intV (w.cell? ⟨b, off + i * 3 + 2, none⟩)⟩ : Ln))).getD i default = l1 := by
          rw [List.getD_eq_getElem?_getD, List.getElem?_map, List.getElem?_range hil]
          show (⟨_, _, _⟩ : Ln) = l1
          rw [d0, d1, d2]; rfl
        rw [e]
        exact ⟨d0, d1, d2⟩

end

theorem ReadsN.take0 {w : World} {a : Option Addr} {len : Nat} {ls : List Ln} (h : ReadsN w a len ls) (n : Nat) (hn : n ≤ len) : ReadsN w a n (ls.take n) := by
  obtain ⟨hl, hc⟩ := h
  refine ⟨by rw [List.length_take]; omega, ?_⟩
  rcases hc with h0 | ⟨b, off, ha, hcell⟩
  · exact .inl (by omega)
  · refine .inr ⟨b, off, ha, fun i hi => ?_⟩
    have e : (ls.take n).getD i default = ls.getD i default := by simp [List.getD, hi]
    rw [e]
    exact hcell i (by omega)
def FewAt (n : Nat) (ls : List Ln) (w : World) (e : Ending) (w' : World) : Prop :=
  ∃ a cp, e = .returned (.slice a n cp) ∧ ReadsN w' a n ls ∧ Only (fun _ => False) w w'
set_option maxRecDepth 100000 in
set_option maxHeartbeats 1000000 in
theorem few_any (a : Option Addr) (len cap n : Nat) (ls : List Ln) (w : World) (h : LinesR w a len cap ls) (hn : n = min len 12) :
    Calls Try.prog 4 #[.slice a len cap] w (FewAt n (ls.take n) w) := by
  obtain ⟨hr, _, hlc, hcm, hnone⟩ := h
  have hn70 : n ≤ 12 := by omega
  have hnl : n ≤ len := by omega
  have HR : Hid (ReadsN w a n (ls.take n)) := Lib.hid (hr.take0 n (by omega))
  have hlen : (ls.take n).length = n := HR.out.1
  generalize ls.take n = l' at *
  rcases a with _ | x
  · obtain rfl : cap = 0 := hnone rfl
    obtain rfl : len = 0 := by omega
    obtain rfl : n = 0 := by omega
    have hm0 : min (0 : Int) 12 = 0 := by decide
    clear hr hnone hn
    have HN : Hid (l' = []) := Lib.hid (List.eq_nil_of_length_eq_zero hlen)
    clear hlen
    go_enter Try.func4, Try.ntmps4
    go_wp2_with fail
    go_ret
    exact ⟨_, _, rfl, by rw [HN.out]; exact ⟨rfl, .inl rfl⟩, (Only.refl _ w).alloc _⟩
  · have hmin : min (len : Int) 12 = (n : Int) := by omega
    have hni : (0 : Int) ≤ (n : Int) := by omega
    have hnc : (n : Int) ≤ (cap : Int) := by omega
    have HOW : Hid (OwnN (w.alloc (.cells #[] 32)) (.slice (some ⟨w.heap.size, 0, none⟩) 0 0) []) := Lib.hid (World.ownsRow_lit w #[] 0 (Nat.zero_le _) (by decide) rfl)
    have HRW := Lib.hid (HR.out.only (S := fun _ => False) ((Only.refl _ w).alloc (.cells #[] 32)) (fun _ _ f => f))
    have hn9 : (len ≤ 12 ∧ n = len) ∨ (12 < len ∧ n = 12) := by omega
    clear hr hnone hn hlen hmin
    rcases hn9 with ⟨h9, rfl⟩ | ⟨h9, rfl⟩
    · have h99 : (n : Int) ≤ 12 := by omega
      go_enter Try.func4, Try.ntmps4
      go_wp2_with (at_builtin; refine append_lines rfl _ _ rfl _ _ rfl HOW.out (some x) n cap l' rfl HRW.out (by rw [List.length_nil]; omega) ?_)
      intro v2 w2 hown hgrow hkk
      have HF : Hid (FewAt n l' w (.returned v2) w2) := Lib.hid (by
        obtain ⟨a2, c2, hv, hrd, _⟩ := own_readsN hown
        rw [HR.out.1] at hv hrd
        refine ⟨a2, c2, by rw [hv], hrd, ((Only.refl _ w).alloc _).then (Only.of_grown hgrow) (fun q hq e => ?_)⟩
        have : w.heap.size = q := by simpa [Value.ownBlock] using e
        omega)
      clear hown hgrow hkk
      go_wp2_with fail
      go_ret
      exact HF.out
    · have h99 : (12 : Int) < (len : Int) := by omega
      go_enter Try.func4, Try.ntmps4
      go_wp2_with (at_builtin; refine append_lines rfl _ _ rfl _ _ rfl HOW.out (some x) 12 cap l' rfl HRW.out (by rw [List.length_nil]; omega) ?_)
      intro v2 w2 hown hgrow hkk
      have HF : Hid (FewAt 12 l' w (.returned v2) w2) := Lib.hid (by
        obtain ⟨a2, c2, hv, hrd, _⟩ := own_readsN hown
        rw [HR.out.1] at hv hrd
        refine ⟨a2, c2, by rw [hv], hrd, ((Only.refl _ w).alloc _).then (Only.of_grown hgrow) (fun q hq e => ?_)⟩
        have : w.heap.size = q := by simpa [Value.ownBlock] using e
        omega)
      clear hown hgrow hkk
      go_wp2_with fail
      go_ret
      exact HF.out
end Go.Proofs.Ytdfghdccbpnohaa.tirw
