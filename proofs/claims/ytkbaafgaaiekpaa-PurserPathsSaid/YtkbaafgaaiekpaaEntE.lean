/- Entries: a row of legs of the call's own, and its sort. -/
import Derived.Test.YtkbaafgaaiekpaaEntD
import Derived.Shelf.SlSortCmp.NoneTotal
namespace Go.Proofs.Ytkbaafgaaiekpaa.entw
open Go.RowKit mem entm Go.Sort
set_option linter.unusedVariables false

def lv (ls : List Lg) : List Value := ls.flatMap encL
theorem lv_nil : lv [] = [] := rfl
theorem lv_cons (x : Lg) (r : List Lg) : lv (x :: r) = encL x ++ lv r := by simp [lv]
theorem lv_append (a b : List Lg) : lv (a ++ b) = lv a ++ lv b := by simp [lv]
theorem lv_length (ls : List Lg) : (lv ls).length = ls.length * 4 := by
  induction ls with
  | nil => rfl
  | cons x r ih => rw [lv_cons, List.length_append, ih, List.length_cons]; simp [encL]; omega
theorem lv_one (ls : List Lg) : ∀ u ∈ lv ls, u.oneCell' = true := by
  intro u hu
  simp only [lv, List.mem_flatMap] at hu
  obtain ⟨x, _, hx⟩ := hu
  simp [encL] at hx
  rcases hx with rfl | rfl | rfl | rfl <;> rfl
theorem lv_get : ∀ (ls : List Lg) (i c : Nat), i < ls.length → c < 4 → (lv ls)[i * 4 + c]? = (encL (ls.getD i default))[c]? := by
  intro ls
  induction ls with
  | nil => intro i c h; simp at h
  | cons x r ih =>
    intro i c hi hc
    have hx : (encL x).length = 4 := rfl
    rw [lv_cons]
    cases i with
    | zero =>
      rw [List.getElem?_append_left (by rw [hx]; omega)]
      simp [List.getD]
    | succ i =>
      rw [List.getElem?_append_right (by rw [hx]; omega), hx, show (i + 1) * 4 + c - 4 = i * 4 + c by omega, ih i c (by simpa using hi) hc]
      simp [List.getD]
theorem encL_some (x : Lg) (c : Nat) (hc : c < 4) : (encL x)[c]? = some ((encL x)[c]!) := by
  have hx : (encL x).length = 4 := rfl
  rw [List.getElem!_eq_getElem?_getD, List.getElem?_eq_getElem (by rw [hx]; exact hc)]; rfl
theorem toArr_get (ls : List Lg) (i : Nat) : ls.toArray[i]! = ls.getD i default := by
  simp [List.getD, Array.getElem!_eq_getD, Array.getD]
  by_cases h : i < ls.length
  · simp [h]
  · simp [h]

theorem InL_default : InI (default : Lg).k ∧ InI (default : Lg).n ∧ InI (default : Lg).g ∧ InI (default : Lg).a := by
  show InI 0 ∧ InI 0 ∧ InI 0 ∧ InI 0
  unfold InI; omega

/-- a row of legs of the call's own -/
def OwnL (w : World) (v : Value) (ls : List Lg) : Prop := w.ownsRow 0 106 4 v ls.length (lv ls)
theorem OwnL.nil (w : World) : OwnL w (.slice none 0 0) [] := World.ownsRow_nil _ _ _ _
theorem OwnL.only {S : Nat → Prop} {w w' : World} {v : Value} {ls : List Lg} (h : OwnL w v ls) (ho : Only S w w') (hs : ∀ k, v.ownBlock = some k → ¬ S k) : OwnL w' v ls := owns_only ho h hs

theorem OwnL.holds {w : World} {g n cap : Nat} {ls : List Lg} (h : OwnL w (.slice (some ⟨g, 0, none⟩) n cap) ls) (hn : n = ls.length) : HoldsK encL 4 w g 0 ls.toArray ∧ g < w.heap.size := by
  subst hn
  rcases h.2 with ⟨hv, _⟩ | ⟨g', cap', cur, hv, _, hh, hc, hm, hcs, htk⟩
  · cases hv
  · injection hv with hv1 hv2 hv3
    injection hv1 with hv1
    injection hv1 with hv1
    subst hv1
    refine ⟨?_, heap_lt hh⟩
    intro t ht
    rw [size_flatK] at ht
    have ht' : t < ls.length * 4 := by simpa using ht
    have hi : t / 4 < ls.length := by omega
    have e1 := lv_get ls (t / 4) (t % 4) hi (by omega)
    rw [show t / 4 * 4 + t % 4 = t by omega] at e1
    rw [get_flatK _ _ _ _ ht, Nat.zero_add, Go.Joins.cell_of_block hh]
    refine ⟨?_, ?_⟩
    · rw [toArr_get, show id (encL (ls.getD (t / 4) default))[t % 4]! = (encL (ls.getD (t / 4) default))[t % 4]! from rfl, ← encL_some _ _ (by omega), ← e1, ← htk, List.getElem?_take, if_pos ht']
      simp
    · simp [World.frozen?, hh]

theorem holds_reads {w : World} {g : Nat} {d : Array Lg} (h : HoldsK encL 4 w g 0 d) (hm : d.size ≤ 9223372036854775807) (hb : ∀ l ∈ d.toList, InI l.k ∧ InI l.n ∧ InI l.g ∧ InI l.a) : ReadsL w (some ⟨g, 0, none⟩) d.size d.toList := by
  refine ⟨by simp, hm, hb, .inr ⟨g, 0, rfl, fun i hi => ?_⟩⟩
  have hg : d[i]! = d.toList.getD i default := by rw [← toArr_get]
  have c0 := (h.cell hi (show 0 < 4 by omega)).1
  have c1 := (h.cell hi (show 1 < 4 by omega)).1
  have c2 := (h.cell hi (show 2 < 4 by omega)).1
  have c3 := (h.cell hi (show 3 < 4 by omega)).1
  rw [hg] at c0 c1 c2 c3
  exact ⟨c0, c1, c2, c3⟩

theorem only_sort (w : World) (g n : Nat) (d : Array Lg) (os : Array Obj) : Only (fun k => k = g) w (sortWorldK encL 4 w g 0 n d os) := by
  refine ⟨rfl, rfl, rfl, size_sortWorldK_c encL 4 w g 0 n d os, fun k hk hs => ?_⟩
  unfold sortWorldK
  rw [heap_grow_old _ _ (by rw [size_putRowK]; exact hk)]
  show ((w.heap.modify g _)[k]?) = _
  rw [Array.getElem?_modify, if_neg (fun e => hs e.symm)]

theorem closure_any (x y : Lg) (w : World) : Calls Try.prog 85 #[.agg (encL x).toArray, .agg (encL y).toArray] w fun e w' => e = .returned (.int .i64 (cmpA x y)) ∧ Grew w w' := by
  have hc := compare_any x y
  obtain ⟨xk, xn, xg, xa⟩ := x
  obtain ⟨yk, yn, yg, ya⟩ := y
  dsimp only at hc
  generalize cmpA ⟨xk, xn, xg, xa⟩ ⟨yk, yn, yg, ya⟩ = c at *
  have HC := Lib.hid hc
  have HG : Hid (∀ o1 o2, Grew w ((w.alloc o1).alloc o2)) := Lib.hid (fun o1 o2 => ((Grew.refl w).alloc o1).alloc o2)
  clear hc
  show Calls Try.prog 85 #[.agg #[.int .i64 xk, .int .i64 xn, .int .i64 xg, .int .i64 xa], .agg #[.int .i64 yk, .int .i64 yn, .int .i64 yg, .int .i64 ya]] w _
  go_enter Try.func85, Try.ntmps85
  go_wp2_with fail
  refine (HC.out _).mono ?_
  rintro _ w1 ⟨rfl, hg⟩
  have HG1 := Lib.hid ((HG.out _ _).trans hg)
  clear hg
  go_wp2_with fail
  go_ret
  exact ⟨rfl, HG1.out⟩

def Sorted (ls : List Lg) : Prop := ls.Pairwise (fun x y => ¬ ltA y x)
def SortedAt (g : Nat) (ls : List Lg) (w : World) (e : Ending) (w' : World) : Prop :=
  ∃ ls', e = .returned (.tuple #[]) ∧ ls'.Perm ls ∧ Sorted ls' ∧ ReadsL w' (some ⟨g, 0, none⟩) ls.length ls' ∧ Only (fun k => k = g) w w'

theorem sort_any (g n cap : Nat) (ls : List Lg) (w : World) (h : OwnL w (.slice (some ⟨g, 0, none⟩) n cap) ls) (hn : n = ls.length) (hm : ls.length ≤ 4000000000000000000) (hb : ∀ l ∈ ls, InI l.k ∧ InI l.n ∧ InI l.g ∧ InI l.a) :
    Calls Try.prog 84 #[.slice (some ⟨g, 0, none⟩) n cap, .func (.func 85) #[] #[]] w (SortedAt g ls w) := by
  obtain ⟨hH, hg⟩ := h.holds hn
  have eg : ∀ args w, (callFunc 85 args).run Try.prog w = .ok (.enter 85 args) w := enters_of Try.func85 (by kernel_rfl) rfl
  have hcon := AnyQ.slices_SortFunc Try.sortLegs 4 Try.isAgg106 Try.sizeOf106 encL (fun _ => rfl) (fun x v hv => by simp [encL] at hv; rcases hv with rfl | rfl | rfl | rfl <;> rfl) cmpA swoA 85 #[] g 0 cap ls.toArray w eg
    (fun m os dk _ x y => closure_any x y _) hH hg (by simp; omega)
  subst hn
  have e : ls.toArray.size = ls.length := by simp
  rw [e] at hcon
  refine hcon.mono ?_
  rintro e w' ⟨rfl, d', nn, os, ⟨hs, _, hp⟩, hsort, rfl⟩
  have hs' : d'.size = ls.length := by simpa using hs
  have hperm : d'.toList.Perm ls := by
    have := hp
    rw [Array.extract_eq_self_of_le (by omega), Array.extract_eq_self_of_le (by simp)] at this
    simpa using this
  refine ⟨d'.toList, rfl, hperm, ?_, ?_, only_sort _ _ _ _ _⟩
  · unfold Sorted
    rw [List.pairwise_iff_getElem]
    intro i j hi hj hij
    have := hsort i j (Nat.zero_le _) hij (by simpa [hs'] using hj)
    rw [ltOf_cmpA, decide_eq_false_iff_not, getElem!_pos d' j (by simpa using hj), getElem!_pos d' i (by simpa using hi)] at this
    exact this
  · have := holds_reads (holdsK_sortWorldK_c encL 4 w g 0 ls.toArray d' nn os hH hg (by simpa using hs')) (by omega) (fun l hl => hb l (hperm.mem_iff.1 hl))
    rwa [hs'] at this
end Go.Proofs.Ytkbaafgaaiekpaa.entw
