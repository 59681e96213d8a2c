/- Entries: the law's to and from. -/
import Derived.Test.YtdjiljkdnpmilaaEntK
namespace Go.Proofs.Ytdjiljkdnpmilaa.entw
open Go.RowKit mem entm
set_option linter.unusedVariables false

/-- a local struct of two cells -/
structure LocAt (w : World) (c : Nat) (k v : Value) : Prop where
  c0 : w.cell? ⟨c, 0, none⟩ = some k
  c1 : w.cell? ⟨c, 1, none⟩ = some v
  f1 : w.frozen? ⟨c, 1, none⟩ = false
theorem LocAt.only {S : Nat → Prop} {w w' : World} {c : Nat} {k v : Value} (h : LocAt w c k v) (ho : Only S w w') (hs : ¬ S c) : LocAt w' c k v :=
  ⟨ho.cell' h.c0 hs, ho.cell' h.c1 hs, (ho.frozen (p := ⟨c, 1, none⟩) (World.block_lt_of_cell? w _ h.c1) hs).trans h.f1⟩
theorem LocAt.set {w : World} {c : Nat} {k v : Value} (h : LocAt w c k v) (u : Value) : LocAt (w.setCell ⟨c, 1, none⟩ u) c k u :=
  ⟨by rw [cell_other (off_ne (by omega))]; exact h.c0, cell_same h.c1, by rw [frozen_set]; exact h.f1⟩

/-- an entry of so many legs, in memory of the call's own -/
def LegsMade (kind : Int) (ls : List Lg) (w : World) (e : Ending) (w' : World) : Prop :=
  ∃ a cp, e = .returned (.agg #[.int .i64 kind, .slice a ls.length cp]) ∧ ReadsL w' a ls.length ls ∧ ls.length ≤ cp ∧ (ls = [] → a = none ∧ cp = 0) ∧ Only (fun _ => False) w w'

theorem alloc_froz (W : World) (cs : Array Value) (t : TypeId) (g i : Nat) (hg : g = W.heap.size) : (W.alloc (.cells cs t)).frozen? ⟨g, i, none⟩ = false := by
  subst hg
  have e : (W.alloc (.cells cs t)).heap[W.heap.size]? = some (.cells cs t) := by rw [heap_alloc, if_pos rfl]
  unfold World.frozen?
  dsimp only
  rw [e]
  simp
theorem take_snocL (ls : List Lg) (k : Nat) (h : k < ls.length) : ls.take (k + 1) = ls.take k ++ [ls.getD k default] := by
  rw [List.take_succ_eq_append_getElem h]
  have : ls.getD k default = ls[k] := by simp [List.getD, h]
  rw [this]

set_option maxRecDepth 100000 in
set_option maxHeartbeats 2000000 in
theorem from_any (kind : Int) (a : Option Addr) (len cap : Nat) (ls : List Lg) (w : World) (h : ReadsL w a len ls) (hm : len ≤ 1000) :
    Calls Try.prog 10 #[.agg #[.int .i64 kind, .slice a len cap]] w (LegsMade kind ls w) := by
  obtain ⟨i0, hi, hz0, hz1, hz2⟩ := info_parts info_rleg
  have H := Lib.hid h
  have HL := Lib.hid h.1
  have HT := Lib.hid ((TwoTwo.start w (.int .i64 kind) (.slice a len cap) (.int .i64 0) (.slice none 0 0) 25 33).next (S := fun _ => False) ((Only.refl _ _).alloc (.cells #[.int .i64 kind, .slice none 0 0] 33)) (fun _ f => f.elim))
  have HC : Hid (LocAt (((w.alloc (.cells #[.int .i64 kind, .slice a len cap] 25)).alloc (.cells #[.int .i64 0, .slice none 0 0] 33)).alloc (.cells #[.int .i64 kind, .slice none 0 0] 33)) (w.heap.size + 2) (.int .i64 kind) (.slice none 0 0)) := Lib.hid ⟨alloc_new _ _ _ _ _ _ (by simp) rfl, alloc_new _ _ _ _ _ _ (by simp) rfl, alloc_froz _ _ _ _ _ (by simp)⟩
  clear h
  go_enter Try.func10, Try.ntmps10
  go_wp2_with fail
  generalize hw0 : ((w.alloc (.cells #[.int .i64 kind, .slice a len cap] 25)).alloc (.cells #[.int .i64 0, .slice none 0 0] 33)).alloc (.cells #[.int .i64 kind, .slice none 0 0] 33) = w0 at *
  clear hw0
  go_loopw [4] (fun i wr => ∃ (k : Nat) (v : Value), k ≤ len ∧ i = .int .i64 k ∧ Hid (TwoTwo w wr (.int .i64 kind) (.slice a len cap)) ∧ Hid (LocAt wr (w.heap.size + 2) (.int .i64 kind) v) ∧ Hid (wr.ownsRow 0 68 4 v k (lv (ls.take k))) ∧ Hid (∀ q, v.ownBlock = some q → w.heap.size + 3 ≤ q) ∧ Hid (k = 0 → v = .slice none 0 0)) (fun i _ => len - (intOf i).toNat)
  case atStart => exact ⟨0, _, by omega, rfl, HT, HC, Lib.hid (World.ownsRow_nil _ _ _ _), Lib.hid (fun q e => by cases e), Lib.hid (fun _ => rfl)⟩
  case round =>
    clear HT HC
    obtain ⟨k, v, hk, rfl, HT, HC, HOW, HB, HNV⟩ := hrel
    by_cases h8 : k < len
    · obtain ⟨b, off, rfl, hcell⟩ := H.out.2.2.2.resolve_left (by omega)
      skip
      obtain ⟨hc0, hc1, hc2, hc3⟩ := hcell k h8
      have c0 := HT.out.only.cell' hc0 (fun f => f)
      have c1 := HT.out.only.cell' hc1 (fun f => f)
      have c2 := HT.out.only.cell' hc2 (fun f => f)
      have c3 := HT.out.only.cell' hc3 (fun f => f)
      have b1 := HT.out.c1
      have HTS := Lib.hid (take_snocL ls k (by rw [HL.out]; exact h8))
      have hsz := HT.out.only.size
      have hbw : w.heap.size + 1 < wr.heap.size := by obtain ⟨u, hu⟩ := HT.out.r0; exact World.block_lt_of_cell? wr _ hu
      have hlw : w.heap.size + 2 < wr.heap.size := World.block_lt_of_cell? wr _ HC.out.c1
      have HVL : Hid (∀ q, v.ownBlock = some q → q < wr.heap.size) := Lib.hid (fun q hq => (World.ownsRow.lt HOW.out q hq).2)
      clear hcell hc0 hc1 hc2 hc3
      generalize ls.getD k default = l at *
      obtain ⟨lk, ln, lg, la⟩ := l
      dsimp only at c0 c1 c2 c3
      have HA : Hid (Only (fun _ => False) wr ((wr.alloc (.cells #[.int .i64 lk, .int .i64 ln, .int .i64 lg, .int .i64 la] 40)).alloc (.cells #[.int .i64 lk, .int .i64 ln, .int .i64 lg, .int .i64 la] 68))) := Lib.hid (((Only.refl _ wr).alloc _).alloc _)
      have HP := Lib.hid (owns_only (S := fun _ => False) HA.out HOW.out (fun _ _ f => f))
      have HT2 := Lib.hid (HT.out.next HA.out (fun _ f => f.elim))
      have HC2 := Lib.hid (HC.out.only HA.out (fun f => f))
      have l1 := HC.out.c1
      have l1' : (wr.alloc (.cells #[.int .i64 lk, .int .i64 ln, .int .i64 lg, .int .i64 la] 40)).cell? ⟨w.heap.size + 2, 1, none⟩ = some v := ((Only.refl (fun _ => False) wr).alloc _).cell' l1 (fun f => f)
      go_wp2_with (at_builtin; refine append_mine rfl _ _ 31 rfl 68 i0 _ 4 32 Try.underlying31 hi hz0 hz1 hz2 rfl (by decide) _ k _ rfl HP.out ⟨wr.heap.size + 1, 0, none⟩ 1 1 (encL ⟨lk, ln, lg, la⟩) rfl ?c1 ?c2 ?c3 ?c4 ?c5 ?_)
      case c1 => rfl
      case c2 => exact news_leg (by simp) _
      case c3 => exact lv_one [⟨lk, ln, lg, la⟩]
      case c4 => unfold maxLen; omega
      case c5 => omega
      intro v2 w2 hown hgrow hkk
      have HG := Lib.hid (Only.of_grown hgrow)
      obtain ⟨g2, cp2, rfl, _⟩ := owns_form hown (by omega)
      have HB2 : Hid (∀ q, (Value.slice (some ⟨g2, 0, none⟩) (k + 1) cp2).ownBlock = some q → w.heap.size + 3 ≤ q) := Lib.hid (fun q hq => by
        rcases hkk q hq with e | e
        · exact HB.out q e
        · omega)
      have HT3 := Lib.hid (HT2.out.next HG.out (fun q hq => by have := HB.out q hq; omega))
      have HC3 := Lib.hid (HC2.out.only HG.out (fun e => by have := HB.out _ e; omega))
      have m1 := HC3.out.c1
      have mf := HC3.out.f1
      have HS : Hid (Only (fun q => q = w.heap.size + 2) w2 (w2.setCell ⟨w.heap.size + 2, 1, none⟩ (.slice (some ⟨g2, 0, none⟩) (k + 1) cp2))) := Lib.hid (Only.set _ w2 _ _ _ rfl)
      have HT4 := Lib.hid (HT3.out.next HS.out (fun q hq => by omega))
      have HC4 := Lib.hid (HC3.out.set (.slice (some ⟨g2, 0, none⟩) (k + 1) cp2))
      have HOW2 : Hid ((w2.setCell ⟨w.heap.size + 2, 1, none⟩ (.slice (some ⟨g2, 0, none⟩) (k + 1) cp2)).ownsRow 0 68 4 (.slice (some ⟨g2, 0, none⟩) (k + 1) cp2) (k + 1) (lv (ls.take (k + 1)))) := Lib.hid (by
        rw [HTS.out, lv_append]
        exact owns_only HS.out hown (fun q hq e => by have := HB2.out q hq; omega))
      clear hown hgrow hkk l1 l1' b1
      go_wp2_with fail
      go_roundw
      case rel => exact ⟨k + 1, _, by omega, by go_num, HT4, HC4, HOW2, HB2, Lib.hid (fun e => by omega)⟩
      case measure => simp [intOf]; omega
    · obtain rfl : k = len := by omega
      have how := HOW.out
      rw [List.take_of_length_le (by rw [HL.out]; omega)] at how
      have b1 := HT.out.c1
      have l0 := HC.out.c0
      have l1 := HC.out.c1
      obtain ⟨u0, r0⟩ := HT.out.r0
      obtain ⟨u1, r1⟩ := HT.out.r1
      have g0 := HT.out.g0
      have g1 := HT.out.g1
      have HE := Lib.hid (set_two (x := .int .i64 kind) (y := v) r0 r1)
      have HS : Hid (Only (fun q => q = w.heap.size + 1) wr ((wr.setCell ⟨w.heap.size + 1, 0, none⟩ (.int .i64 kind)).setCell ⟨w.heap.size + 1, 1, none⟩ v)) := Lib.hid (((Only.refl (fun q => q = w.heap.size + 1) wr).setCell (p := ⟨w.heap.size + 1, 0, none⟩) (.inl rfl) _).setCell (p := ⟨w.heap.size + 1, 1, none⟩) (.inl rfl) _)
      obtain ⟨a', cp, hv, hcp, hnil, hrd⟩ : ∃ a' cp, v = .slice a' k cp ∧ k ≤ cp ∧ (ls = [] → a' = none ∧ cp = 0) ∧ (a' = none ∧ k = 0 ∨ ∃ g, a' = some ⟨g, 0, none⟩) := by
        rcases how.2 with ⟨hv, h0⟩ | ⟨g, cp, cur, hv, hg, hh, hc, hm, _⟩
        · exact ⟨none, 0, by rw [hv, h0], by omega, fun _ => ⟨rfl, rfl⟩, .inl ⟨rfl, h0⟩⟩
        · refine ⟨_, cp, hv, hc, fun hls => ?_, .inr ⟨g, rfl⟩⟩
          have hk0 : k = 0 := by have := HL.out; rw [hls] at this; simpa using this.symm
          have := HNV.out hk0
          rw [hv] at this
          cases this
      subst hv
      have HRD : Hid (ReadsL wr a' k ls) := Lib.hid (by
        rcases hrd with ⟨rfl, rfl⟩ | ⟨g, rfl⟩
        · obtain rfl : ls = [] := List.eq_nil_of_length_eq_zero HL.out
          exact ReadsL.nil _ _
        · exact own_reads how (by omega) H.out.2.2.1)
      have HAB : Hid (∀ x, a' = some x → w.heap.size + 3 ≤ x.block) := Lib.hid (fun x hx => HB.out x.block (by rw [hx]; rfl))
      clear how hrd
      go_wp2_with fail
      refine bodyPost_ret (v := .agg #[.int .i64 kind, .slice a' k cp]) (by simp [results, Try.results10, go_sem, HE.out.1, HE.out.2]) rfl ⟨a', cp, by rw [HL.out], ?_, by rw [HL.out]; exact hcp, hnil, HT.out.only.then HS.out (fun q hq e => by omega)⟩
      rw [HL.out]
      exact HRD.out.only HS.out (fun x hx e => by have := HAB.out x hx; omega)
end Go.Proofs.Ytdjiljkdnpmilaa.entw
