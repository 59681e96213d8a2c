/- The disk: its memory, and what its small calls do. -/
import Derived.Test.YtcbpgplmphgcgaaDskM
import Derived.Laws.BitsAllLaws
namespace Go.Proofs.Ytcbpgplmphgcgaa.dskw
open Go.RowKit mem
set_option linter.unusedVariables false

/-- a disk of n sectors: L lasts, C is in the cache -/
structure DskAt (w : World) (p bl bm n : Nat) (L : Nat → List Nat) (C : Nat → Option (List Nat)) (cut : Int) (off : Bool) : Prop where
  c0 : w.cell? ⟨p, 0, none⟩ = some (.slice (some ⟨bl, 0, none⟩) n n)
  c1 : w.cell? ⟨p, 1, none⟩ = some (.map (some bm))
  c2 : w.cell? ⟨p, 2, none⟩ = some (.int .i64 cut)
  c3 : w.cell? ⟨p, 3, none⟩ = some (.bool off)
  f2 : w.frozen? ⟨p, 2, none⟩ = false
  f3 : w.frozen? ⟨p, 3, none⟩ = false
  row : ∀ i, i < n → Sec (L i) ∧ w.rangeAt bl (i * 64) (bv (L i)) ∧ w.there bl (i * 64) 64
  map : MapC w bm n C
  ne1 : bl ≠ p
  ne2 : bm ≠ p
  ne3 : bl ≠ bm
  n1 : 1 ≤ n
  n2 : n ≤ 8192
  cut1 : -9223372036854775808 ≤ cut ∧ cut ≤ 9223372036854775807

theorem DskAt.lt {w : World} {p bl bm n : Nat} {L : Nat → List Nat} {C : Nat → Option (List Nat)} {cut : Int} {off : Bool} (h : DskAt w p bl bm n L C cut off) : p < w.heap.size ∧ bl < w.heap.size ∧ bm < w.heap.size := by
  refine ⟨World.block_lt_of_cell? w _ h.c0, ?_, h.map.lt⟩
  have h1 := (h.row 0 (by have := h.n1; omega)).2.2 0 (by omega)
  obtain ⟨u, hu⟩ := Option.isSome_iff_exists.1 h1.1
  exact World.block_lt_of_cell? w _ hu

theorem range_only {S : Nat → Prop} {w w' : World} {b o : Nat} {cs : List Value} (h : w.rangeAt b o cs) (ho : Only S w w') (hs : ¬ S b) : w'.rangeAt b o cs := fun j v hv => ho.cell' (h j v hv) hs
theorem there_only {S : Nat → Prop} {w w' : World} {b o n : Nat} (h : w.there b o n) (ho : Only S w w') (hs : ¬ S b) : w'.there b o n := fun j hj => by
  obtain ⟨h1, h2⟩ := h j hj
  obtain ⟨u, hu⟩ := Option.isSome_iff_exists.1 h1
  exact ⟨by rw [ho.cell' hu hs]; rfl, (ho.frozen (p := ⟨b, o + j, none⟩) (World.block_lt_of_cell? w _ hu) hs).trans h2⟩

theorem DskAt.only {S : Nat → Prop} {w w' : World} {p bl bm n : Nat} {L : Nat → List Nat} {C : Nat → Option (List Nat)} {cut : Int} {off : Bool} (h : DskAt w p bl bm n L C cut off) (ho : Only S w w') (h1 : ¬ S p) (h2 : ¬ S bl) (h3 : ¬ S bm) : DskAt w' p bl bm n L C cut off :=
  have hp := h.lt.1
  ⟨ho.cell' h.c0 h1, ho.cell' h.c1 h1, ho.cell' h.c2 h1, ho.cell' h.c3 h1, (ho.frozen (p := ⟨p, 2, none⟩) hp h1).trans h.f2, (ho.frozen (p := ⟨p, 3, none⟩) hp h1).trans h.f3,
    fun i hi => ⟨(h.row i hi).1, range_only (h.row i hi).2.1 ho h2, there_only (h.row i hi).2.2 ho h2⟩, h.map.only ho h3, h.ne1, h.ne2, h.ne3, h.n1, h.n2, h.cut1⟩

/-- the disk's blocks -/
def Dbl (p bl bm : Nat) (k : Nat) : Prop := k = p ∨ k = bl ∨ k = bm

theorem off_ne {b i j : Nat} (h : i ≠ j) : (⟨b, i, none⟩ : Addr) ≠ ⟨b, j, none⟩ := fun e => h (by injection e)

theorem DskAt.setCut {w : World} {p bl bm n : Nat} {L : Nat → List Nat} {C : Nat → Option (List Nat)} {cut : Int} {off : Bool} (h : DskAt w p bl bm n L C cut off) (c : Int) (hc : -9223372036854775808 ≤ c ∧ c ≤ 9223372036854775807) : DskAt (w.setCell ⟨p, 2, none⟩ (.int .i64 c)) p bl bm n L C c off :=
  have ho := Only.set (fun k => k = p) w p 2 (.int .i64 c) rfl
  ⟨by rw [cell_other (off_ne (by omega))]; exact h.c0, by rw [cell_other (off_ne (by omega))]; exact h.c1, cell_same h.c2, by rw [cell_other (off_ne (by omega))]; exact h.c3, by rw [frozen_set]; exact h.f2, by rw [frozen_set]; exact h.f3,
    fun i hi => ⟨(h.row i hi).1, range_only (h.row i hi).2.1 ho h.ne1, there_only (h.row i hi).2.2 ho h.ne1⟩, h.map.only ho h.ne2, h.ne1, h.ne2, h.ne3, h.n1, h.n2, hc⟩
theorem DskAt.setOff {w : World} {p bl bm n : Nat} {L : Nat → List Nat} {C : Nat → Option (List Nat)} {cut : Int} {off : Bool} (h : DskAt w p bl bm n L C cut off) (c : Bool) : DskAt (w.setCell ⟨p, 3, none⟩ (.bool c)) p bl bm n L C cut c :=
  have ho := Only.set (fun k => k = p) w p 3 (.bool c) rfl
  ⟨by rw [cell_other (off_ne (by omega))]; exact h.c0, by rw [cell_other (off_ne (by omega))]; exact h.c1, by rw [cell_other (off_ne (by omega))]; exact h.c2, cell_same h.c3, by rw [frozen_set]; exact h.f2, by rw [frozen_set]; exact h.f3,
    fun i hi => ⟨(h.row i hi).1, range_only (h.row i hi).2.1 ho h.ne1, there_only (h.row i hi).2.2 ho h.ne1⟩, h.map.only ho h.ne2, h.ne1, h.ne2, h.ne3, h.n1, h.n2, h.cut1⟩

theorem size_any (p bl bm n : Nat) (L : Nat → List Nat) (C : Nat → Option (List Nat)) (cut : Int) (off : Bool) (w : World) (h : DskAt w p bl bm n L C cut off) :
    Calls Try.prog 49 #[.pointer (some ⟨p, 0, none⟩)] w fun e w' => e = .returned (.int .i64 (n : Int)) ∧ w = w' := by
  have c0 := h.c0
  clear h
  go_enter Try.func49, Try.ntmps49
  go_wp2
  go_ret
  exact ⟨rfl, rfl⟩
theorem size_nil (w : World) : Calls Try.prog 49 #[.pointer none] w fun e w' => e = .returned (.int .i64 0) ∧ w = w' := by
  go_enter Try.func49, Try.ntmps49
  go_wp2
  go_ret
  exact ⟨rfl, rfl⟩

theorem offs_any (p bl bm n : Nat) (L : Nat → List Nat) (C : Nat → Option (List Nat)) (cut : Int) (off : Bool) (w : World) (h : DskAt w p bl bm n L C cut off) :
    Calls Try.prog 44 #[.pointer (some ⟨p, 0, none⟩)] w fun e w' => e = .returned (.bool off) ∧ w = w' := by
  have c3 := h.c3
  clear h
  go_enter Try.func44, Try.ntmps44
  go_wp2
  go_ret
  exact ⟨rfl, rfl⟩
theorem offs_nil (w : World) : Calls Try.prog 44 #[.pointer none] w fun e w' => e = .returned (.bool true) ∧ w = w' := by
  go_enter Try.func44, Try.ntmps44
  go_wp2
  go_ret
  exact ⟨rfl, rfl⟩

/-- behind a call of a disk's -/
def DAft (p bl bm n : Nat) (w w' : World) (L : Nat → List Nat) (C : Nat → Option (List Nat)) (cut : Int) (off : Bool) : Prop := DskAt w' p bl bm n L C cut off ∧ Only (Dbl p bl bm) w w'

theorem cut_any (p bl bm n : Nat) (L : Nat → List Nat) (C : Nat → Option (List Nat)) (cut : Int) (off : Bool) (c : Int) (hc : -9223372036854775808 ≤ c ∧ c ≤ 9223372036854775807) (w : World) (h : DskAt w p bl bm n L C cut off) :
    Calls Try.prog 31 #[.pointer (some ⟨p, 0, none⟩), .int .i64 c] w fun e w' => e = .returned (.tuple #[]) ∧ DAft p bl bm n w w' L C c off := by
  have c2 := h.c2
  have f2 := h.f2
  have HS := Lib.hid (And.intro (h.setCut c hc) (Only.set (Dbl p bl bm) w p 2 (.int .i64 c) (.inl rfl)))
  clear h hc
  go_enter Try.func31, Try.ntmps31
  go_wp2
  go_end0
  exact ⟨rfl, HS.out⟩
theorem cut_nil (c : Int) (w : World) : Calls Try.prog 31 #[.pointer none, .int .i64 c] w fun e w' => e = .returned (.tuple #[]) ∧ w = w' := by
  go_enter Try.func31, Try.ntmps31
  go_wp2
  go_end0
  exact ⟨rfl, rfl⟩

/-- the Cut and the power, a sector later -/
def cutN (cut : Int) : Int := if 0 < cut then cut - 1 else cut
def offN (cut : Int) (off : Bool) : Bool := if 0 < cut then decide (cut = 1) else off

theorem count_any (p bl bm n : Nat) (L : Nat → List Nat) (C : Nat → Option (List Nat)) (cut : Int) (off : Bool) (w : World) (h : DskAt w p bl bm n L C cut off) :
    Calls Try.prog 68 #[.pointer (some ⟨p, 0, none⟩)] w fun e w' => e = .returned (.tuple #[]) ∧ DAft p bl bm n w w' L C (cutN cut) (offN cut off) := by
  have c2 := h.c2
  have f2 := h.f2
  have c3 := h.c3
  have f3 := h.f3
  have hcb := h.cut1
  unfold cutN offN
  by_cases hc : 0 < cut
  · rw [if_pos hc, if_pos hc]
    have h1 := h.setCut (cut - 1) (by omega)
    have HS := Lib.hid (And.intro (h1.setOff (decide (cut = 1))) ((Only.set (Dbl p bl bm) w p 2 (.int .i64 (cut - 1)) (.inl rfl)).setCell (p := ⟨p, 3, none⟩) (.inl (.inl rfl)) (.bool (decide (cut = 1)))))
    have hq : ((cut - 1 : Int) == 0) = decide (cut = 1) := by
      by_cases e : cut = 1
      · subst e; rfl
      · rw [decide_eq_false e, beq_eq_false_iff_ne]; omega
    clear h h1
    go_enter Try.func68, Try.ntmps68
    go_wp2
    go_end0
    exact ⟨rfl, HS.out⟩
  · rw [if_neg hc, if_neg hc]
    have HS := Lib.hid h
    clear h
    go_enter Try.func68, Try.ntmps68
    go_wp2
    go_end0
    exact ⟨rfl, HS.out, Only.refl _ _⟩

/-- are so many sectors there, and can they be reached? -/
def chk (n : Nat) (off : Bool) (first m : Int) : Int := if off then 12 else if 0 ≤ first ∧ 0 ≤ m ∧ m ≤ (n : Int) - first then 0 else 1

theorem check_any (p bl bm n : Nat) (L : Nat → List Nat) (C : Nat → Option (List Nat)) (cut : Int) (off : Bool) (first m : Int) (hf : -9223372036854775808 ≤ first ∧ first ≤ 9223372036854775807) (w : World) (h : DskAt w p bl bm n L C cut off) :
    Calls Try.prog 59 #[.pointer (some ⟨p, 0, none⟩), .int .i64 first, .int .i64 m] w fun e w' => e = .returned (.int .i64 (chk n off first m)) ∧ w = w' := by
  have c0 := h.c0
  have c3 := h.c3
  have n2 := h.n2
  clear h
  cases off
  · by_cases h1 : first < 0
    · have hR : Hid (chk n false first m = 1) := Lib.hid (by unfold chk; rw [if_neg (by simp), if_neg (by omega)])
      go_enter Try.func59, Try.ntmps59
      go_wp2
      go_ret
      rw [hR.out]
      exact ⟨rfl, rfl⟩
    · by_cases h2 : m < 0
      · have hR : Hid (chk n false first m = 1) := Lib.hid (by unfold chk; rw [if_neg (by simp), if_neg (by omega)])
        go_enter Try.func59, Try.ntmps59
        go_wp2
        go_ret
        rw [hR.out]
        exact ⟨rfl, rfl⟩
      · by_cases h3 : (n : Int) - first < m
        · have hR : Hid (chk n false first m = 1) := Lib.hid (by unfold chk; rw [if_neg (by simp), if_neg (by omega)])
          go_enter Try.func59, Try.ntmps59
          go_wp2
          go_ret
          rw [hR.out]
          exact ⟨rfl, rfl⟩
        · have hR : Hid (chk n false first m = 0) := Lib.hid (by unfold chk; rw [if_neg (by simp), if_pos (by omega)])
          go_enter Try.func59, Try.ntmps59
          go_wp2
          go_ret
          rw [hR.out]
          exact ⟨rfl, rfl⟩
  · have hR : Hid (chk n true first m = 12) := Lib.hid (by unfold chk; rw [if_pos rfl])
    go_enter Try.func59, Try.ntmps59
    go_wp2
    go_ret
    rw [hR.out]
    exact ⟨rfl, rfl⟩
theorem check_nil (first m : Int) (w : World) : Calls Try.prog 59 #[.pointer none, .int .i64 first, .int .i64 m] w fun e w' => e = .returned (.int .i64 1) ∧ w = w' := by
  go_enter Try.func59, Try.ntmps59
  go_wp2
  go_ret
  exact ⟨rfl, rfl⟩
end Go.Proofs.Ytcbpgplmphgcgaa.dskw
