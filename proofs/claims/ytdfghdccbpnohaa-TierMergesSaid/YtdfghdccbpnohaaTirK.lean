/- Lines: their order; the program's compare; a row of lines, and its sort. -/
import Derived.Test.YtdfghdccbpnohaaTirL
import Derived.Test.YtdfghdccbpnohaaTirU
import Derived.Test.YtdfghdccbpnohaaMemI
import Derived.Test.YtdfghdccbpnohaaShelf
import Derived.Sort.Grow
import Derived.Shelf.SlSortCmp.NoneTotal
import Derived.Deep.RegionHeld3
import Derived.Deep.DrawnRows
import Derived.Deep.QuietTactic
import Derived.BigQuiet
namespace Go.Proofs.Ytdfghdccbpnohaa.tirw
open Go.RowKit mem tirm intm Go.Sort
set_option linter.unusedVariables false

/-- new blocks, draws; nothing that was there is turned -/
def Grew (w w' : World) : Prop := ∃ q os, w' = Go.Sort.grow (w.drewN q) os
theorem Grew.refl (w : World) : Grew w w := ⟨0, #[], by rw [Go.Sort.grow_empty]; rfl⟩
theorem Grew.alloc {w w' : World} (h : Grew w w') (o : Obj) : Grew w (w'.alloc o) := by
  obtain ⟨q, os, rfl⟩ := h
  exact ⟨q, os ++ #[o], by rw [Go.Sort.alloc_eq_grow, Go.Sort.grow_grow]⟩
theorem Grew.drew {w w' : World} (h : Grew w w') : Grew w w'.drew := by
  obtain ⟨q, os, rfl⟩ := h
  exact ⟨q + 1, os, rfl⟩
theorem Grew.trans {a b c : World} (h : Grew a b) (k : Grew b c) : Grew a c := by
  obtain ⟨q, os, rfl⟩ := h
  obtain ⟨q2, os2, rfl⟩ := k
  refine ⟨q + q2, os ++ os2, ?_⟩
  rw [← Go.Sort.grow_grow]
  show Go.Sort.grow (Go.Sort.grow ((a.drewN q).drewN q2) os) os2 = _
  rw [World.drewN_drewN]
theorem Grew.only {w w' : World} (h : Grew w w') : Only (fun _ => False) w w' := by
  obtain ⟨q, os, rfl⟩ := h
  exact ⟨rfl, rfl, rfl, by rw [Go.Sort.size_grow]; exact Nat.le_add_right _ _, fun k hk _ => Go.Sort.heap_grow_old _ _ hk⟩

theorem compare_ints (x y : Int) (w : World) : Calls Try.prog 23 #[.int .i64 x, .int .i64 y] w fun e w' => e = .returned (.int .i64 (Lib.compareInt x y)) ∧ w = w' :=
  (Try.cmp_Compare_int x y w).mono fun _ _ ⟨a, b⟩ => ⟨a, b.symm⟩

/-- the first that isn't nought -/
def orL (l : List Int) : Int := (l.find? fun x => !(x == 0)).getD 0
theorem orL_cons (x : Int) (l : List Int) : orL (x :: l) = if x = 0 then orL l else x := by
  unfold orL
  by_cases h : x = 0
  · subst h; simp
  · rw [if_neg h, List.find?_cons_of_pos (by simpa using h)]; rfl
theorem drop_get (l : List Int) (k : Nat) (h : k < l.length) : l.drop k = l.getD k 0 :: l.drop (k + 1) := by
  rw [List.drop_eq_getElem_cons h]
  simp [List.getD, h]

theorem or_any (a : Option Addr) (len cap : Nat) (l : List Int) (w : World) (h : ReadsI w a len l) :
    Calls Try.prog 22 #[.slice a len cap] w fun e w' => e = .returned (.int .i64 (orL l)) ∧ w = w' := by
  have hm := h.2.1
  unfold maxLen at hm
  have H := Lib.hid h
  clear h
  go_enter Try.func22, Try.ntmps22
  go_wp2_with fail
  go_loop [8] (fun i => ∃ k : Nat, k ≤ len ∧ i = .int .i64 k ∧ Hid (orL (l.drop k) = orL l)) (fun i => len - (intOf i).toNat)
  case atStart => exact ⟨0, by omega, rfl, Lib.hid rfl⟩
  case round =>
    obtain ⟨k, hk, rfl, HP⟩ := hrel
    by_cases h8 : k < len
    · obtain ⟨b, off, rfl, hcell⟩ := H.out.2.2.2.resolve_left (by omega)
      have hcl := hcell k h8
      clear hcell
      have hd := HP.out
      rw [drop_get l k (by rw [H.out.1]; exact h8), orL_cons] at hd
      generalize l.getD k 0 = x at *
      by_cases hx : x = 0
      · rw [if_pos hx] at hd
        have HD := Lib.hid hd
        subst hx
        clear hd
        go_wp2_with fail
        go_round
        case rel => exact ⟨k + 1, by omega, by go_num, HD⟩
        case measure => simp [intOf]; omega
      · rw [if_neg hx] at hd
        have HD := Lib.hid hd
        have hx1 : (x == 0) = false := by simpa using hx
        have hx2 : (x != 0) = true := by simpa using hx
        clear hd hx
        go_wp2_with fail
        rw [← HD.out]
        go_ret
        exact ⟨rfl, rfl⟩
    · obtain rfl : k = len := by omega
      have HR : Hid (orL l = 0) := Lib.hid (by
        have := HP.out
        rw [List.drop_eq_nil_of_le (by rw [H.out.1]; omega)] at this
        rw [← this]; rfl)
      go_wp2_with fail
      rw [HR.out]
      go_ret
      exact ⟨rfl, rfl⟩


def cmpN (x y : Ln) : Int := if x.t < y.t then -1 else if y.t < x.t then 1 else if x.p < y.p then -1 else if y.p < x.p then 1 else 0
theorem cmpN_lt (x y : Ln) : cmpN x y < 0 ↔ ltN x y := by
  unfold cmpN ltN
  repeat' split
  all_goals omega
theorem cmpN_lk (x y : Ln) : cmpN x y = 0 ↔ lk x y := by
  unfold cmpN lk
  repeat' split
  all_goals omega
theorem ltOf_cmpN (x y : Ln) : ltOf cmpN x y = decide (ltN x y) := by
  unfold ltOf
  rw [Bool.eq_iff_iff, decide_eq_true_eq, decide_eq_true_eq]
  exact cmpN_lt x y
theorem swoN : SWO (ltOf cmpN) where
  irrefl x := by rw [ltOf_cmpN]; simp [ltN]
  trans x y z h1 h2 := by rw [ltOf_cmpN] at *; simp at *; exact lt_trans h1 h2
  ntrans x y z h1 h2 := by rw [ltOf_cmpN] at *; simp at *; unfold ltN at *; omega
theorem cmpN_or (x y : Ln) : orL [Lib.compareInt x.t y.t, Lib.compareInt x.p y.p] = cmpN x y := by
  rw [orL_cons, orL_cons]
  unfold Lib.compareInt cmpN
  have : orL [] = 0 := rfl
  rw [this]
  repeat' split
  all_goals omega
theorem drew_new (W : World) (cs : Array Value) (t : TypeId) (g i : Nat) (v : Value) (hg : g = W.heap.size) (h : cs[i]? = some v) : (W.alloc (.cells cs t)).drew.cell? ⟨g, i, none⟩ = some v :=
  alloc_new W cs t g i v hg h
theorem or_two (g : Nat) (a b : Int) (w : World) (ha : -9223372036854775808 ≤ a ∧ a ≤ 9223372036854775807) (hb : -9223372036854775808 ≤ b ∧ b ≤ 9223372036854775807)
    (c0 : w.cell? ⟨g, 0, none⟩ = some (.int .i64 a)) (c1 : w.cell? ⟨g, 1, none⟩ = some (.int .i64 b)) :
    Calls Try.prog 22 #[.slice (some ⟨g, 0, none⟩) 2 2] w fun e w' => e = .returned (.int .i64 (orL [a, b])) ∧ w = w' := by
  refine or_any _ _ _ _ _ ⟨rfl, by unfold maxLen; omega, ?_, .inr ⟨g, 0, rfl, ?_⟩⟩
  · intro x hx
    simp at hx
    rcases hx with rfl | rfl <;> assumption
  · intro i hi
    match i, hi with
    | 0, _ => exact c0
    | 1, _ => exact c1
theorem cmpInt_in (x y : Int) : -9223372036854775808 ≤ Lib.compareInt x y ∧ Lib.compareInt x y ≤ 9223372036854775807 := by
  unfold Lib.compareInt
  repeat' split
  all_goals omega


set_option maxHeartbeats 4000000 in
attribute [local go_sem ↓] Go.wp_at_zero Go.wp_at_succ in
theorem compare_any (x y : Ln) (w : World) : Calls Try.prog 13 #[.agg #[.int .i64 x.t, .int .i64 x.b, .int .i64 x.p], .agg #[.int .i64 y.t, .int .i64 y.b, .int .i64 y.p]] w fun e w' => e = .returned (.int .i64 (cmpN x y)) ∧ Grew w w' := by
  rw [← cmpN_or]
  have hb1 := cmpInt_in x.t y.t
  have hb3 := cmpInt_in x.p y.p
  obtain ⟨xk, xn, xg⟩ := x
  obtain ⟨yk, yn, yg⟩ := y
  dsimp only at *
  have HB := Lib.hid (And.intro hb1 hb3)
  clear hb1 hb3
  have HG : Hid (∀ o1 o2, Grew w ((w.alloc o1).alloc o2)) := Lib.hid (fun o1 o2 => ((Grew.refl w).alloc o1).alloc o2)
  go_enter Try.func13, Try.ntmps13
  go_wp2_with fail
  go_region_held3 (fun w' => w'.cell? ⟨w.heap.size, 0, none⟩ = some (.int .i64 xk) ∧ w'.cell? ⟨w.heap.size, 2, none⟩ = some (.int .i64 xg) ∧ w'.cell? ⟨w.heap.size + 1, 0, none⟩ = some (.int .i64 yk) ∧ w'.cell? ⟨w.heap.size + 1, 2, none⟩ = some (.int .i64 yg)) (go_keep)
    (first | (go_at_call 23; refine (compare_ints _ _ _).mono ?_; rintro _ _ ⟨rfl, rfl⟩) | (go_at_call 22; refine (or_two _ _ _ _ HB.out.1 HB.out.2 (drew_new _ _ _ _ _ _ (by simp) rfl) (drew_new _ _ _ _ _ _ (by simp) rfl)).mono ?_; rintro _ _ ⟨rfl, rfl⟩))
  go_wp2_with fail
  go_ret
  exact ⟨rfl, ((HG.out _ _).alloc _).drew⟩

theorem encN_some (x : Ln) (c : Nat) (hc : c < 3) : (encN x)[c]? = some ((encN x)[c]!) := by
  have hx : (encN x).length = 3 := rfl
  rw [List.getElem!_eq_getElem?_getD, List.getElem?_eq_getElem (by rw [hx]; exact hc)]; rfl
theorem toArrN_get (ls : List Ln) (i : Nat) : ls.toArray[i]! = ls.getD i default := by
  simp [List.getD, Array.getElem!_eq_getD, Array.getD]
  by_cases h : i < ls.length
  · simp [h]
  · simp [h]
theorem OwnN.holds {w : World} {g n cap : Nat} {ls : List Ln} (h : OwnN w (.slice (some ⟨g, 0, none⟩) n cap) ls) (hn : n = ls.length) : HoldsK encN 3 w g 0 ls.toArray ∧ g < w.heap.size := by
  subst hn
  rcases h.2 with ⟨hv, _⟩ | ⟨g', cap', cur, hv, _, hh, hc, hm, hcs, htk⟩
  · cases hv
  · injection hv with hv1 hv2 hv3
    injection hv1 with hv1
    injection hv1 with hv1
    subst hv1
    refine ⟨?_, heap_lt hh⟩
    intro t ht
    rw [size_flatK] at ht
    have ht' : t < ls.length * 3 := by simpa using ht
    have hi : t / 3 < ls.length := by omega
    have e1 := lvn_get ls (t / 3) (t % 3) hi (by omega)
    rw [show t / 3 * 3 + t % 3 = t by omega] at e1
    rw [get_flatK _ _ _ _ ht, Nat.zero_add, Go.Joins.cell_of_block hh]
    refine ⟨?_, ?_⟩
    · rw [toArrN_get, show id (encN (ls.getD (t / 3) default))[t % 3]! = (encN (ls.getD (t / 3) default))[t % 3]! from rfl, ← encN_some _ _ (by omega), ← e1, ← htk, List.getElem?_take, if_pos ht']
      simp
    · simp [World.frozen?, hh]

theorem holds_reads {w : World} {g : Nat} {d : Array Ln} (h : HoldsK encN 3 w g 0 d) : ReadsN w (some ⟨g, 0, none⟩) d.size d.toList := by
  refine ⟨by simp, .inr ⟨g, 0, rfl, fun i hi => ?_⟩⟩
  have hg : d[i]! = d.toList.getD i default := by rw [← toArrN_get]
  have c0 := (h.cell hi (show 0 < 3 by omega)).1
  have c1 := (h.cell hi (show 1 < 3 by omega)).1
  have c2 := (h.cell hi (show 2 < 3 by omega)).1
  rw [hg] at c0 c1 c2
  exact ⟨c0, c1, c2⟩

theorem only_sort (w : World) (g n : Nat) (d : Array Ln) (os : Array Obj) : Only (fun k => k = g) w (sortWorldK encN 3 w g 0 n d os) := by
  refine ⟨rfl, rfl, rfl, size_sortWorldK_c encN 3 w g 0 n d os, fun k hk hs => ?_⟩
  unfold sortWorldK
  rw [heap_grow_old _ _ (by rw [size_putRowK]; exact hk)]
  show ((w.heap.modify g _)[k]?) = _
  rw [Array.getElem?_modify, if_neg (fun e => hs e.symm)]

def Sorted (ls : List Ln) : Prop := ls.Pairwise (fun x y => ¬ ltN y x)
def SortedAt (g : Nat) (ls : List Ln) (w : World) (e : Ending) (w' : World) : Prop :=
  ∃ ls', e = .returned (.tuple #[]) ∧ ls'.Perm ls ∧ Sorted ls' ∧ ReadsN w' (some ⟨g, 0, none⟩) ls.length ls' ∧ Only (fun k => k = g) w w'

theorem sort_any (g n cap : Nat) (ls : List Ln) (w : World) (h : OwnN w (.slice (some ⟨g, 0, none⟩) n cap) ls) (hn : n = ls.length) (hm : ls.length ≤ 4000000000000000000) :
    Calls Try.prog 12 #[.slice (some ⟨g, 0, none⟩) n cap, .func (.func 13) #[] #[]] w (SortedAt g ls w) := by
  obtain ⟨hH, hg⟩ := h.holds hn
  have eg : ∀ args w, (callFunc 13 args).run Try.prog w = .ok (.enter 13 args) w := enters_of Try.func13 (by kernel_rfl) rfl
  have hcon := AnyQ.slices_SortFunc Try.sortLines 3 Try.isAgg32 Try.sizeOf32 encN (fun _ => rfl) (fun x v hv => by simp [encN] at hv; rcases hv with rfl | rfl | rfl <;> rfl) cmpN swoN 13 #[] g 0 cap ls.toArray w eg
    (fun m os dk _ x y => compare_any x y _) hH hg (by simp; omega)
  subst hn
  have e : ls.toArray.size = ls.length := by simp
  rw [e] at hcon
  refine hcon.mono ?_
  rintro e w' ⟨rfl, d', nn, os, ⟨hs, _, hp⟩, hsort, rfl⟩
  have hs' : d'.size = ls.length := by simpa using hs
  have hperm : d'.toList.Perm ls := by
    have := hp
    rw [Array.extract_eq_self_of_le (by omega), Array.extract_eq_self_of_le (by simp)] at this
    simpa using this
  refine ⟨d'.toList, rfl, hperm, ?_, ?_, only_sort _ _ _ _ _⟩
  · unfold Sorted
    rw [List.pairwise_iff_getElem]
    intro i j hi hj hij
    have := hsort i j (Nat.zero_le _) hij (by simpa [hs'] using hj)
    rw [ltOf_cmpN, decide_eq_false_iff_not, getElem!_pos d' j (by simpa using hj), getElem!_pos d' i (by simpa using hi)] at this
    exact this
  · have := holds_reads (holdsK_sortWorldK_c encN 3 w g 0 ls.toArray d' nn os hH hg (by simpa using hs'))
    rwa [hs'] at this
end Go.Proofs.Ytdfghdccbpnohaa.tirw
