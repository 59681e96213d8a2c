/- Accounts in order: compare; a nil map's keys. -/
import Derived.Test.YtdjiljkdnpmilaaAcK
import Derived.Test.YtdjiljkdnpmilaaEntE
import Derived.Test.YtdjiljkdnpmilaaShelfA
import Derived.Sort.Grow
import Derived.Deep.RegionHeld3
import Derived.Deep.DrawnRows
import Derived.Deep.QuietTactic
import Derived.BigQuiet
namespace Go.Proofs.Ytdjiljkdnpmilaa.acck
open Go.RowKit mem Go.WideShapes Go.ChangeMaps Go.WideMaps Go.Maps accm accn entw entm Go.Sort
set_option linter.unusedVariables false
set_option maxRecDepth 100000

set_option maxHeartbeats 4000000 in
attribute [local go_sem ↓] Go.wp_at_zero Go.wp_at_succ in
theorem jcompare_any (x y : Lg) (w : World) : Calls Try.prog 39 #[.agg #[.int .i64 x.k, .int .i64 x.n, .int .i64 x.g], .agg #[.int .i64 y.k, .int .i64 y.n, .int .i64 y.g]] w fun e w' => e = .returned (.int .i64 (cmpA x y)) ∧ Grew w w' := by
  rw [← cmpA_or]
  have hb1 := cmpInt_in x.k y.k
  have hb2 := cmpInt_in x.n y.n
  have hb3 := cmpInt_in x.g y.g
  obtain ⟨xk, xn, xg, xa⟩ := x
  obtain ⟨yk, yn, yg, ya⟩ := y
  dsimp only at *
  have HB := Lib.hid (And.intro hb1 (And.intro hb2 hb3))
  clear hb1 hb2 hb3
  have HG : Hid (∀ o1 o2, Grew w ((w.alloc o1).alloc o2)) := Lib.hid (fun o1 o2 => ((Grew.refl w).alloc o1).alloc o2)
  go_enter Try.func39, Try.ntmps39
  go_wp2_with fail
  go_region_held3 (fun w' => w'.cell? ⟨w.heap.size, 0, none⟩ = some (.int .i64 xk) ∧ w'.cell? ⟨w.heap.size, 1, none⟩ = some (.int .i64 xn) ∧ w'.cell? ⟨w.heap.size, 2, none⟩ = some (.int .i64 xg) ∧ w'.cell? ⟨w.heap.size + 1, 0, none⟩ = some (.int .i64 yk) ∧ w'.cell? ⟨w.heap.size + 1, 1, none⟩ = some (.int .i64 yn) ∧ w'.cell? ⟨w.heap.size + 1, 2, none⟩ = some (.int .i64 yg)) (go_keep)
    (first | (go_at_call 58; refine (compare_ints _ _ _).mono ?_; rintro _ _ ⟨rfl, rfl⟩) | (go_at_call 57; refine (or_three _ _ _ _ _ HB.out.1 HB.out.2.1 HB.out.2.2 (drew_new _ _ _ _ _ _ (by simp) rfl) (drew_new _ _ _ _ _ _ (by simp) rfl) (drew_new _ _ _ _ _ _ (by simp) rfl)).mono ?_; rintro _ _ ⟨rfl, rfl⟩))
  go_wp2_with fail
  go_ret
  exact ⟨rfl, ((HG.out _ _).alloc _).drew⟩

instance : Inhabited Ac := ⟨⟨0, 0, 0⟩⟩
def toL (a : Ac) : Lg := ⟨a.k, a.n, a.g, 0⟩
def cmpC (x y : Ac) : Int := cmpA (toL x) (toL y)
def ltC (x y : Ac) : Prop := ltA (toL x) (toL y)
theorem swoC : SWO (ltOf cmpC) where
  irrefl x := swoA.irrefl (toL x)
  trans x y z h1 h2 := swoA.trans (toL x) (toL y) (toL z) h1 h2
  ntrans x y z h1 h2 := swoA.ntrans (toL x) (toL y) (toL z) h1 h2
theorem jcmp_any (x y : Ac) (w : World) : Calls Try.prog 39 #[.agg (encA x).toArray, .agg (encA y).toArray] w fun e w' => e = .returned (.int .i64 (cmpC x y)) ∧ Grew w w' := jcompare_any (toL x) (toL y) w

theorem av_get : ∀ (ls : List Ac) (i c : Nat), i < ls.length → c < 3 → (av ls)[i * 3 + c]? = (encA (ls.getD i default))[c]? := by
  intro ls
  induction ls with
  | nil => intro i c h; simp at h
  | cons x r ih =>
    intro i c hi hc
    have hx : (encA x).length = 3 := rfl
    show (encA x ++ av r)[_]? = _
    cases i with
    | zero =>
      rw [List.getElem?_append_left (by rw [hx]; omega)]
      simp [List.getD]
    | succ i =>
      rw [List.getElem?_append_right (by rw [hx]; omega), hx, show (i + 1) * 3 + c - 3 = i * 3 + c by omega, ih i c (by simpa using hi) hc]
      simp [List.getD]
theorem encA_some (x : Ac) (c : Nat) (hc : c < 3) : (encA x)[c]? = some ((encA x)[c]!) := by
  have hx : (encA x).length = 3 := rfl
  rw [List.getElem!_eq_getElem?_getD, List.getElem?_eq_getElem (by rw [hx]; exact hc)]; rfl
theorem toArr_getA (ls : List Ac) (i : Nat) : ls.toArray[i]! = ls.getD i default := by
  simp [List.getD, Array.getElem!_eq_getD, Array.getD]
  by_cases h : i < ls.length
  · simp [h]
  · simp [h]
theorem own_holds {w : World} {base g n cap : Nat} {ls : List Ac} (h : w.ownsRow base 38 3 (.slice (some ⟨g, 0, none⟩) n cap) ls.length (av ls)) (hn : n = ls.length) : HoldsK encA 3 w g 0 ls.toArray ∧ g < w.heap.size := by
  subst hn
  rcases h.2 with ⟨hv, _⟩ | ⟨g', cap', cur, hv, _, hh, hc, hm, hcs, htk⟩
  · cases hv
  · injection hv with hv1 hv2 hv3
    injection hv1 with hv1
    injection hv1 with hv1
    subst hv1
    refine ⟨?_, heap_lt hh⟩
    intro t ht
    rw [size_flatK] at ht
    have ht' : t < ls.length * 3 := by simpa using ht
    have hi : t / 3 < ls.length := by omega
    have e1 := av_get ls (t / 3) (t % 3) hi (by omega)
    rw [show t / 3 * 3 + t % 3 = t by omega] at e1
    rw [get_flatK _ _ _ _ ht, Nat.zero_add, Go.Joins.cell_of_block hh]
    refine ⟨?_, ?_⟩
    · rw [toArr_getA, show id (encA (ls.getD (t / 3) default))[t % 3]! = (encA (ls.getD (t / 3) default))[t % 3]! from rfl, ← encA_some _ _ (by omega), ← e1, ← htk, List.getElem?_take, if_pos ht']
      simp
    · simp [World.frozen?, hh]
/-- a row of accounts that is read -/
def ReadsA (w : World) (a : Option Addr) (len : Nat) (ls : List Ac) : Prop := ls.length = len ∧ (len = 0 ∨ ∃ b, a = some ⟨b, 0, none⟩ ∧ ∀ i, i < len → w.cell? ⟨b, i * 3, none⟩ = some (.int .i64 (ls.getD i default).k) ∧ w.cell? ⟨b, i * 3 + 1, none⟩ = some (.int .i64 (ls.getD i default).n) ∧ w.cell? ⟨b, i * 3 + 2, none⟩ = some (.int .i64 (ls.getD i default).g))
theorem ReadsA.only {S : Nat → Prop} {w w' : World} {a : Option Addr} {len : Nat} {l : List Ac} (h : ReadsA w a len l) (ho : Only S w w') (hs : ∀ x, a = some x → ¬ S x.block) : ReadsA w' a len l := by
  refine ⟨h.1, h.2.imp (fun x => x) fun ⟨g, e, hc⟩ => ⟨g, e, fun k hk => ?_⟩⟩
  obtain ⟨c0, c1, c2⟩ := hc k hk
  have hn : ¬ S g := hs _ e
  exact ⟨ho.cell' c0 hn, ho.cell' c1 hn, ho.cell' c2 hn⟩
theorem holds_readsA {w : World} {g : Nat} {d : Array Ac} (h : HoldsK encA 3 w g 0 d) : ReadsA w (some ⟨g, 0, none⟩) d.size d.toList := by
  refine ⟨by simp, .inr ⟨g, rfl, fun i hi => ?_⟩⟩
  have hg : d[i]! = d.toList.getD i default := by rw [← toArr_getA]
  have c0 := (h.cell hi (show 0 < 3 by omega)).1
  have c1 := (h.cell hi (show 1 < 3 by omega)).1
  have c2 := (h.cell hi (show 2 < 3 by omega)).1
  rw [hg] at c0 c1 c2
  simp only [Nat.zero_add] at c0 c1 c2
  exact ⟨c0, c1, c2⟩
theorem only_sortA (w : World) (g n : Nat) (d : Array Ac) (os : Array Obj) : Only (fun k => k = g) w (sortWorldK encA 3 w g 0 n d os) := by
  refine ⟨rfl, rfl, rfl, size_sortWorldK_c encA 3 w g 0 n d os, fun k hk hs => ?_⟩
  unfold sortWorldK
  rw [heap_grow_old _ _ (by rw [size_putRowK]; exact hk)]
  show ((w.heap.modify g _)[k]?) = _
  rw [Array.getElem?_modify, if_neg (fun e => hs e.symm)]
def SortedC (ls : List Ac) : Prop := ls.Pairwise (fun x y => ¬ ltC y x)
def SortedAtC (g : Nat) (ls : List Ac) (w : World) (e : Ending) (w' : World) : Prop :=
  ∃ ls', e = .returned (.tuple #[]) ∧ ls'.Perm ls ∧ SortedC ls' ∧ ReadsA w' (some ⟨g, 0, none⟩) ls.length ls' ∧ Only (fun k => k = g) w w'
theorem sortA_any (base g n cap : Nat) (ls : List Ac) (w : World) (h : w.ownsRow base 38 3 (.slice (some ⟨g, 0, none⟩) n cap) ls.length (av ls)) (hn : n = ls.length) (hm : ls.length ≤ 4000000000000000000) :
    Calls Try.prog 55 #[.slice (some ⟨g, 0, none⟩) n cap, .func (.func 39) #[] #[]] w (SortedAtC g ls w) := by
  obtain ⟨hH, hg⟩ := own_holds h hn
  have eg : ∀ args w, (callFunc 39 args).run Try.prog w = .ok (.enter 39 args) w := enters_of Try.func39 (by kernel_rfl) rfl
  have hcon := AnyQ.slices_SortFunc Try.sortAccs 3 Try.isAgg38 Try.sizeOf38 encA (fun _ => rfl) (fun x v hv => by simp [encA] at hv; rcases hv with rfl | rfl | rfl <;> rfl) cmpC swoC 39 #[] g 0 cap ls.toArray w eg
    (fun m os dk _ x y => jcmp_any x y _) hH hg (by simp; omega)
  subst hn
  have e : ls.toArray.size = ls.length := by simp
  rw [e] at hcon
  refine hcon.mono ?_
  rintro e w' ⟨rfl, d', nn, os, ⟨hs, _, hp⟩, hsort, rfl⟩
  have hs' : d'.size = ls.length := by simpa using hs
  have hperm : d'.toList.Perm ls := by
    have := hp
    rw [Array.extract_eq_self_of_le (by omega), Array.extract_eq_self_of_le (by simp)] at this
    simpa using this
  refine ⟨d'.toList, rfl, hperm, ?_, ?_, only_sortA _ _ _ _ _⟩
  · unfold SortedC
    rw [List.pairwise_iff_getElem]
    intro i j hi hj hij
    have := hsort i j (Nat.zero_le _) hij (by simpa [hs'] using hj)
    have this : ltOf cmpA (toL d'[j]!) (toL d'[i]!) = false := this
    rw [ltOf_cmpA, decide_eq_false_iff_not, getElem!_pos d' j (by simpa using hj), getElem!_pos d' i (by simpa using hi)] at this
    exact this
  · have := holds_readsA (holdsK_sortWorldK_c encA 3 w g 0 ls.toArray d' nn os hH hg (by simpa using hs'))
    rwa [hs'] at this
end Go.Proofs.Ytdjiljkdnpmilaa.acck
