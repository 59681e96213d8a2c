/- Tariffs: tiers in memory; tariff.Check. -/
import Derived.Test.YtdfghdccbpnohaaMem
import Derived.Test.YtdfghdccbpnohaaTirM
import Derived.Test.YtdfghdccbpnohaaIntM
import Derived.BigQuiet
import Derived.Deep.RegionHeld3
import Derived.StillTailTactics
namespace Go.Proofs.Ytdfghdccbpnohaa.tirw
open Go.RowKit mem tirm intm
set_option linter.unusedVariables false

theorem alloc_new (W : World) (cs : Array Value) (t : TypeId) (g i : Nat) (v : Value) (hg : g = W.heap.size) (h : cs[i]? = some v) : (W.alloc (.cells cs t)).cell? ⟨g, i, none⟩ = some v := by
  subst hg
  rw [Go.Joins.cell_of_block (cs := cs) (t := t) (fr := (0, 0)) (by rw [heap_alloc, if_pos rfl]), h]
theorem alloc_froz (W : World) (cs : Array Value) (t : TypeId) (g i : Nat) (hg : g = W.heap.size) : (W.alloc (.cells cs t)).frozen? ⟨g, i, none⟩ = false := by
  subst hg
  have e : (W.alloc (.cells cs t)).heap[W.heap.size]? = some (.cells cs t) := by rw [heap_alloc, if_pos rfl]
  unfold World.frozen?
  dsimp only
  rw [e]
  simp
theorem off_ne {b i j : Nat} (h : i ≠ j) : (⟨b, i, none⟩ : Addr) ≠ ⟨b, j, none⟩ := fun e => h (by injection e)
theorem only_drewN {S : Nat → Prop} {a w : World} (h : Only S a w) (n : Nat) : Only S a (w.drewN n) := ⟨h.os, h.tape, h.output, h.size, h.block⟩

def InI (n : Int) : Prop := -9223372036854775808 ≤ n ∧ n ≤ 9223372036854775807
/-- a slice's tiers -/
def ReadsT (w : World) (a : Option Addr) (len : Nat) (ts : List Tr) : Prop :=
  ts.length = len ∧ len ≤ 9223372036854775807 ∧ (∀ x ∈ ts, InI x.u ∧ InI x.p) ∧
  (len = 0 ∨ ∃ b off, a = some ⟨b, off, none⟩ ∧ ∀ i, i < len → w.cell? ⟨b, off + i * 2, none⟩ = some (.int .i64 (ts.getD i default).u) ∧ w.cell? ⟨b, off + i * 2 + 1, none⟩ = some (.int .i64 (ts.getD i default).p))
theorem ReadsT.only {S : Nat → Prop} {w w' : World} {a : Option Addr} {len : Nat} {ts : List Tr} (h : ReadsT w a len ts) (ho : Only S w w') (hs : ∀ x, a = some x → ¬ S x.block) : ReadsT w' a len ts := by
  obtain ⟨hl, hm, hb', hc⟩ := h
  refine ⟨hl, hm, hb', ?_⟩
  rcases hc with h0 | ⟨b, off, ha, hcell⟩
  · exact .inl h0
  · have hn : ¬ S b := hs _ ha
    refine .inr ⟨b, off, ha, fun i hi => ?_⟩
    obtain ⟨h1, h2⟩ := hcell i hi
    exact ⟨ho.cell' h1 hn, ho.cell' h2 hn⟩
theorem getT_mem (ts : List Tr) (k : Nat) (h : k < ts.length) : ts.getD k default ∈ ts := by
  have : ts.getD k default = ts[k] := by simp [List.getD, h]
  rw [this]; exact List.getElem_mem h
theorem drop_getT (ts : List Tr) (k : Nat) (h : k < ts.length) : ts.drop k = ts.getD k default :: ts.drop (k + 1) := by
  rw [List.drop_eq_getElem_cons h]
  simp [List.getD, h]

theorem tchk_step {ts : List Tr} {k : Nat} (h : k < ts.length) (l : Int) : tchkF l (ts.drop k) =
    if (ts.getD k default).p < 0 ∨ 1048576 < (ts.getD k default).p then 1 else if (if k + 1 = ts.length then (ts.getD k default).u ≠ 0 else ((ts.getD k default).u ≤ l ∨ 1099511627776 < (ts.getD k default).u)) then 15 else tchkF (ts.getD k default).u (ts.drop (k + 1)) := by
  rw [drop_getT ts k h]
  conv => lhs; unfold tchkF
  have e : (ts.drop (k + 1) = []) = (k + 1 = ts.length) := by
    apply propext
    rw [List.drop_eq_nil_iff]
    omega
  simp only [e]

set_option maxRecDepth 100000 in
theorem ctiers_any (a : Option Addr) (len cap : Nat) (ts : List Tr) (w : World) (h : ReadsT w a len ts) :
    Calls Try.prog 47 #[.slice a len cap] w fun e w' => e = .returned (.int .i64 (tchkF 0 ts)) ∧ Only (fun _ => False) w w' := by
  have hm := h.2.1
  have H := Lib.hid h
  have HL : Hid (ts.length = len) := Lib.hid h.1
  clear h
  go_enter Try.func47, Try.ntmps47
  go_wp2_with fail
  go_loopw [4, 12] (fun l i wr => ∃ (k : Nat) (l0 : Int), k ≤ len ∧ i = .int .i64 k ∧ l = .int .i64 l0 ∧ Hid (tchkF l0 (ts.drop k) = tchkF 0 ts) ∧ Hid (Only (fun _ => False) w wr)) (fun _ i _ => len - (intOf i).toNat)
  case atStart => exact ⟨0, 0, by omega, rfl, rfl, Lib.hid rfl, Lib.hid (Only.refl _ _)⟩
  case round =>
    obtain ⟨k, l0, hk, rfl, rfl, HP, HW⟩ := hrel
    by_cases h8 : k < len
    · obtain ⟨b, off, rfl, hcell⟩ := H.out.2.2.2.resolve_left (by omega)
      obtain ⟨hc0, hc1⟩ := hcell k h8
      have hst := HP.out
      rw [tchk_step (by rw [HL.out]; exact h8), HL.out] at hst
      have c0 := HW.out.cell' hc0 (fun f => f)
      have c1 := HW.out.cell' hc1 (fun f => f)
      have HA : Hid (∀ o, Only (fun _ => False) w (wr.alloc o)) := Lib.hid (fun o => HW.out.alloc o)
      generalize ts.getD k default = x at *
      obtain ⟨u, p⟩ := x
      dsimp only at c0 c1 hst
      clear hcell hc0 hc1
      by_cases h1 : p < 0
      · have HR : Hid (tchkF 0 ts = 1) := Lib.hid (by rw [← hst, if_pos (.inl h1)])
        clear hst
        go_wp2_with fail
        go_ret
        exact ⟨by rw [HR.out]; rfl, HA.out _⟩
      · by_cases h2 : 1048576 < p
        · have HR : Hid (tchkF 0 ts = 1) := Lib.hid (by rw [← hst, if_pos (.inr h2)])
          clear hst
          go_wp2_with fail
          go_ret
          exact ⟨by rw [HR.out]; rfl, HA.out _⟩
        · rw [if_neg (by omega)] at hst
          by_cases h3 : k + 1 = len
          · simp only [eq_true h3, if_true] at hst
            subst h3
            by_cases h4 : u = 0
            · rw [if_neg (by simpa using h4)] at hst
              have HN := Lib.hid hst
              subst h4
              clear hst
              go_wp2_with fail
              go_round
              case rel => exact ⟨k + 1, _, by omega, by go_num, rfl, HN, Lib.hid (HA.out _)⟩
              case measure => simp [intOf]
            · have HR : Hid (tchkF 0 ts = 15) := Lib.hid (by rw [← hst, if_pos h4])
              clear hst
              go_wp2_with fail
              go_ret
              exact ⟨by rw [HR.out]; rfl, HA.out _⟩
          · simp only [eq_false h3, if_false] at hst
            have hkl : (k : Int) < (len : Int) - 1 := by omega
            have hkl2 : ¬ (k : Int) = (len : Int) - 1 := by omega
            by_cases h4 : u ≤ l0
            · have HR : Hid (tchkF 0 ts = 15) := Lib.hid (by rw [← hst, if_pos (.inl h4)])
              clear hst
              go_wp2_with fail
              go_ret
              exact ⟨by rw [HR.out]; rfl, HA.out _⟩
            · by_cases h5 : 1099511627776 < u
              · have HR : Hid (tchkF 0 ts = 15) := Lib.hid (by rw [← hst, if_pos (.inr h5)])
                clear hst
                go_wp2_with fail
                go_ret
                exact ⟨by rw [HR.out]; rfl, HA.out _⟩
              · rw [if_neg (by omega)] at hst
                have HN := Lib.hid hst
                clear hst
                go_wp2_with fail
                go_round
                case rel => exact ⟨k + 1, _, by omega, by go_num, rfl, HN, Lib.hid (HA.out _)⟩
                case measure => simp [intOf]; omega
    · obtain rfl : k = len := by omega
      have HR : Hid (tchkF 0 ts = 0) := Lib.hid (by rw [← HP.out, List.drop_eq_nil_of_le (by rw [HL.out]; omega)]; rfl)
      go_wp2_with fail
      go_ret
      exact ⟨by rw [HR.out]; rfl, HW.out⟩
end Go.Proofs.Ytdfghdccbpnohaa.tirw
