/- What codec's Reader answers, as plain mathematics over the bytes that are left. -/
import Derived.Test.YtcbpgplmphgcgaaCodGroups
import Derived.Lib.SliceRun
namespace Go.Proofs.Ytcbpgplmphgcgaa.codw
open Go.RowKit mem codm
set_option linter.unusedVariables false

/-- a copy: new memory -/
theorem clone_any (a : Option Addr) (len cap : Nat) (l : List Nat) (w : World) (h : Bytes w a len cap l) (hmax : len ≤ 140737488355328) :
    Calls Try.prog 89 #[.slice a len cap] w fun e w' => ∃ v', e = .returned v' ∧ OwnB w' v' l ∧ Only (fun _ => False) w w' ∧ (∀ k, v'.ownBlock = some k → w.heap.size ≤ k) := by
  obtain ⟨hr, hlc, hcm, hn⟩ := h
  have he := fun (wx : World) => Lib.run_eql_slice_nil (P := Try.prog) wx 47 5 a len cap 0 0 Try.underlying47
  obtain ⟨i0, hi, hz0, hz1, hz2⟩ := info_parts info_u8
  rcases a with _ | x
  · have hc0 := hn rfl
    subst hc0
    have hl0 : len = 0 := by omega
    subst hl0
    obtain rfl : l = [] := List.eq_nil_of_length_eq_zero hr.1
    clear hn hr
    go_enter Try.func89, Try.ntmps89
    go_wp2
    go_ret
    exact ⟨_, rfl, OwnB.nil _, Only.refl _ _, fun k hk => by cases hk⟩
  · have HR := Lib.hid hr
    have hll := hr.1
    have HB := Lib.hid hr.2.2.1
    have hm := hr.2.1
    have HLL := Lib.hid hll
    clear hn hr hll
    unfold maxLen at hcm hm
    go_enter Try.func89, Try.ntmps89
    go_wp2_with (first | (at_builtin; refine append_mine rfl _ _ 47 rfl 5 i0 (.int .u8 0) 1 1 Try.underlying47 hi hz0 hz1 hz2 rfl (by decide) _ _ _ rfl (World.ownsRow_lit w #[] 0 (Nat.zero_le _) (by decide) rfl) x _ _ (bv l) rfl ?c1 ?c2 ?c3 ?c4 ?c5 ?_))
    case c1 => rw [bv_length, HLL.out, Nat.mul_one]
    case c2 => exact news_of_reads (HR.out.only ((Only.refl (fun _ => False) w).alloc _) (fun _ _ f => f))
    case c3 => exact bv_one l
    case c4 => unfold maxLen; omega
    case c5 => omega
    intro v' w1 hown hgrow hk
    have hO : Only (fun _ => False) w w1 := by
      have h1 := (Only.refl (fun k => some w.heap.size = some k) w).alloc (.cells #[] 5)
      have h2 := h1.then (Only.of_grown hgrow) (fun i hi' hh => hh)
      exact h2.mono (fun k hk' e => by simp at e; omega)
    have hB : OwnB w1 v' l := ⟨by rw [HLL.out]; simpa using hown, HB.out, by rw [HLL.out]; unfold maxLen; omega⟩
    have hK : ∀ k, v'.ownBlock = some k → w.heap.size ≤ k := fun k e => by
      rcases hk k e with h1 | h1
      · simp [Value.ownBlock] at h1; omega
      · omega
    clear hown hgrow hk
    go_wp2
    go_ret
    exact ⟨_, rfl, hB, hO, hK⟩

/-- a reader: what is left, and its error -/
structure RD (w : World) (p : Nat) (a : Option Addr) (len cap : Nat) (l : List Nat) (e : Nat) : Prop where
  c0 : w.cell? ⟨p, 0, none⟩ = some (.slice a len cap)
  c1 : w.cell? ⟨p, 1, none⟩ = some (.int .i64 (e : Int))
  f0 : w.frozen? ⟨p, 0, none⟩ = false
  f1 : w.frozen? ⟨p, 1, none⟩ = false
  reads : Reads w a len l
  lc : len ≤ cap
  cm : cap ≤ maxLen
  off : ∀ x, a = some x → x.block ≠ p

theorem RD.only {S : Nat → Prop} {w w' : World} {p : Nat} {a : Option Addr} {len cap e : Nat} {l : List Nat} (h : RD w p a len cap l e) (ho : Only S w w') (hp : ¬ S p) (ha : ∀ x, a = some x → ¬ S x.block) : RD w' p a len cap l e := by
  have hlt : p < w.heap.size := World.block_lt_of_cell? w _ h.c0
  exact ⟨ho.cell' h.c0 hp, ho.cell' h.c1 hp, (ho.frozen (p := ⟨p, 0, none⟩) hlt hp).trans h.f0, (ho.frozen (p := ⟨p, 1, none⟩) hlt hp).trans h.f1, h.reads.only ho ha, h.lc, h.cm, h.off⟩

theorem RD.err {w : World} {p : Nat} {a : Option Addr} {len cap e : Nat} {l : List Nat} (h : RD w p a len cap l e) (e' : Nat) : RD (w.setCell ⟨p, 1, none⟩ (.int .i64 (e' : Int))) p a len cap l e' := by
  have ho : Only (fun k => k = p) w (w.setCell ⟨p, 1, none⟩ (.int .i64 (e' : Int))) := Only.set _ w p 1 _ rfl
  exact ⟨by rw [cell_other (by simp)]; exact h.c0, cell_same h.c1, by rw [frozen_set]; exact h.f0, by rw [frozen_set]; exact h.f1,
    h.reads.only ho h.off, h.lc, h.cm, h.off⟩

theorem RD.left {w : World} {p : Nat} {a : Option Addr} {len cap e : Nat} {l : List Nat} (h : RD w p a len cap l e) {a' : Option Addr} {len' cap' : Nat} {l' : List Nat}
    (hr : Reads w a' len' l') (hl : len' ≤ cap') (hc : cap' ≤ maxLen) (ha : ∀ x, a' = some x → x.block ≠ p) : RD (w.setCell ⟨p, 0, none⟩ (.slice a' len' cap')) p a' len' cap' l' e := by
  have ho : Only (fun k => k = p) w (w.setCell ⟨p, 0, none⟩ (.slice a' len' cap')) := Only.set _ w p 0 _ rfl
  exact ⟨cell_same h.c0, by rw [cell_other (by simp)]; exact h.c1, by rw [frozen_set]; exact h.f0, by rw [frozen_set]; exact h.f1,
    hr.only ho ha, hl, hc, ha⟩

theorem Reads.drop {w : World} {b off len : Nat} {l : List Nat} (h : Reads w (some ⟨b, off, none⟩) len l) (s : Nat) (hs : s ≤ len) : Reads w (some ⟨b, off + s, none⟩) (len - s) (l.drop s) := by
  obtain ⟨hl, hm, hb, hc⟩ := h
  refine ⟨by simp; omega, by omega, fun c hc' => hb c (List.mem_of_mem_drop hc'), ?_⟩
  rcases hc with h0 | ⟨b', off', ha, hcell⟩
  · exact .inl (by omega)
  · obtain ⟨rfl, rfl⟩ : b = b' ∧ off = off' := by simpa using ha
    refine .inr ⟨b, off + s, rfl, fun i hi => ?_⟩
    rw [Nat.add_assoc, hcell (s + i) (by omega)]
    simp [List.getD]

/-- the same, where nothing is left: the address does not matter -/
theorem Reads.none_left {w : World} (a : Option Addr) : Reads w a 0 [] := ⟨rfl, by unfold maxLen; omega, by simp, .inl rfl⟩

theorem stopped_any (p : Nat) (a : Option Addr) (len cap : Nat) (l : List Nat) (e : Nat) (w : World) (h : RD w p a len cap l e) :
    Calls Try.prog 109 #[.pointer (some ⟨p, 0, none⟩)] w fun en w' => en = .returned (.bool ((e : Int) != 0)) ∧ w = w' := by
  have h1 := h.c1
  clear h
  go_enter Try.func109, Try.ntmps109
  go_wp2
  go_ret
  exact ⟨rfl, rfl⟩
end Go.Proofs.Ytcbpgplmphgcgaa.codw
