/- What a strict window keeps of numbers from 0 on, as mathematics; rows of bytes that come in. -/
import Derived.Test.YtpjbgcbjelcnbaaWnD
import Derived.OpenShut
import Derived.ChangeOld
namespace Go.Proofs.Ytpjbgcbjelcnbaa.wnd
open Go.RowKit mem rowz dskw
set_option linter.unusedVariables false

def KN (mo : Nat) (f : Nat → Kp) (n : Nat) : List Kp := (List.range' (n - mo) (min n mo)).map f
theorem rng_succ (s k : Nat) : List.range' s (k + 1) = List.range' s k ++ [s + k] := by
  rw [List.range'_concat]; simp
theorem rng_find (f : Nat → Kp) (hf : ∀ j, (f j).n = j) (i : Nat) : ∀ k s, ((List.range' s k).map f).find? (fun x => decide (x.n = (i : Int))) = if s ≤ i ∧ i < s + k then some (f i) else none := by
  intro k
  induction k with
  | zero => intro s; rw [if_neg (by omega)]; rfl
  | succ k ih =>
    intro s
    rw [List.range'_succ, List.map_cons, List.find?_cons, hf s]
    by_cases h : s = i
    · subst h
      rw [decide_eq_true rfl, if_pos (by omega)]
    · have : ¬ ((s : Int) = (i : Int)) := by omega
      rw [decide_eq_false this]
      show List.find? _ ((List.range' (s + 1) k).map f) = _
      rw [ih (s + 1)]
      by_cases q : s + 1 ≤ i ∧ i < s + 1 + k
      · rw [if_pos q, if_pos (by omega)]
      · rw [if_neg q, if_neg (by omega)]
theorem rng_none (f : Nat → Kp) (hf : ∀ j, (f j).n = j) (z : Int) : ∀ k s, (∀ j : Nat, j < s + k → (j : Int) ≠ z) → ((List.range' s k).map f).find? (fun x => decide (x.n = z)) = none := by
  intro k s h
  rw [List.find?_eq_none]
  intro x hx
  obtain ⟨j, hj, rfl⟩ := List.mem_map.1 hx
  have := List.mem_range'.1 hj
  obtain ⟨i, hi, rfl⟩ := this
  rw [hf]
  simp only [decide_eq_true_eq]
  exact h _ (by omega)
theorem kn_last (mo : Nat) (f : Nat → Kp) (hf : ∀ j, (f j).n = j) (n : Nat) (hm : 1 ≤ mo) : lastK (KN mo f n) = (n : Int) - 1 := by
  unfold lastK KN
  rw [List.length_map, List.length_range']
  by_cases h : n = 0
  · subst h; rw [if_pos (by omega)]; rfl
  · rw [if_neg (by omega)]
    have h1 : min n mo - 1 < (List.range' (n - mo) (min n mo)).length := by rw [List.length_range']; omega
    have e : ((List.range' (n - mo) (min n mo)).map f).getD (min n mo - 1) default = f (n - 1) := by
      simp only [List.getD, List.getElem?_map, List.getElem?_eq_getElem h1, Option.map_some, Option.getD_some, List.getElem_range']
      congr 1
      omega
    rw [e, hf]
    omega
theorem kn_len (mo : Nat) (f : Nat → Kp) (n : Nat) : (KN mo f n).length = min n mo := by unfold KN; rw [List.length_map, List.length_range']
theorem kn_new (mo : Nat) (f : Nat → Kp) (hf : ∀ j, (f j).n = j) (n : Nat) (hm : 1 ≤ mo) (hn : n ≤ 1000) (q : List Nat) : lookE (KN mo f n) true n q = 7 := by
  unfold lookE lookR lookK
  rw [if_neg (by omega)]
  have e : (KN mo f n).find? (fun x => decide (x.n = (n : Int))) = none := rng_none f hf n _ _ (fun j hj => by omega)
  rw [e]
  dsimp only
  rw [kn_last mo f hf n hm, if_neg (by omega), if_neg (by omega)]
theorem kn_far (mo : Nat) (f : Nat → Kp) (hf : ∀ j, (f j).n = j) (n : Nat) (z : Int) (hm : 1 ≤ mo) (h1 : (n : Int) < z) (h2 : z ≤ 4611686018427387904) (q : List Nat) : lookE (KN mo f n) true z q = 15 := by
  unfold lookE lookR lookK
  rw [if_neg (by omega)]
  have e : (KN mo f n).find? (fun x => decide (x.n = z)) = none := rng_none f hf z _ _ (fun j hj => by omega)
  rw [e]
  dsimp only
  rw [kn_last mo f hf n hm, if_neg (by omega), if_pos ⟨rfl, by omega⟩]
theorem kn_old (mo : Nat) (f : Nat → Kp) (hf : ∀ j, (f j).n = j) (n i : Nat) (hm : 1 ≤ mo) (hi : i < n) (hn : n ≤ 1000) : lookR (KN mo f n) true i (f i).q = if n ≤ i + mo then (0, (f i).a) else (13, []) := by
  unfold lookR lookK
  rw [if_neg (by omega)]
  have e : (KN mo f n).find? (fun x => decide (x.n = (i : Int))) = _ := rng_find f hf i _ _
  rw [e]
  by_cases h : n ≤ i + mo
  · rw [if_pos h, if_pos (by omega)]
    dsimp only
    rw [if_pos rfl]
  · rw [if_neg h, if_neg (by omega)]
    dsimp only
    rw [kn_last mo f hf n hm, if_pos (by omega)]
theorem kn_step (mo : Nat) (f : Nat → Kp) (hf : ∀ j, (f j).n = j) (n : Nat) (hm : 1 ≤ mo) (hn : n ≤ 1000) (h1 : (f n).q.length ≤ 65536) (h2 : (f n).a.length ≤ 65536) : keepE (KN mo f n) true (f n) = 0 ∧ keepR (KN mo f n) (1 + ((mo - 1 : Nat) : Int)) true (f n) = KN mo f (n + 1) := by
  have e : keepE (KN mo f n) true (f n) = 0 := by
    unfold keepE
    rw [hf, kn_new mo f hf n hm hn, if_pos rfl, if_neg (by omega)]
  refine ⟨e, ?_⟩
  unfold keepR
  rw [if_pos e]
  unfold keepK
  rw [List.length_append, kn_len, List.length_singleton]
  have hA : KN mo f n ++ [f n] = (List.range' (n - mo) (min n mo + 1)).map f := by
    unfold KN
    rw [rng_succ, List.map_append]
    have : n - mo + min n mo = n := by omega
    rw [this]; rfl
  rw [hA]
  by_cases h : n < mo
  · rw [if_neg (by omega)]
    unfold KN
    have a1 : n - mo = n + 1 - mo := by omega
    have a2 : min n mo + 1 = min (n + 1) mo := by omega
    rw [a1, a2]
  · rw [if_pos (by omega)]
    unfold KN
    rw [← List.map_drop, List.range'_succ, List.drop_succ_cons, List.drop_zero]
    have a1 : n - mo + 1 = n + 1 - mo := by omega
    have a2 : min n mo = min (n + 1) mo := by omega
    rw [a1, a2]
/-- a row of bytes that comes in -/
structure Bs where
  a : Option Addr
  n : Nat
  c : Nat
  l : List Nat
deriving Inhabited
def RowB (w : World) (a : Option Addr) (len : Nat) (D : List Bs) : Prop := D.length = len ∧ len ≤ maxLen ∧ (len = 0 ∨ ∃ b off, a = some ⟨b, off, none⟩ ∧ ∀ i, i < len → w.cell? ⟨b, off + i, none⟩ = some (.slice (D.getD i default).a (D.getD i default).n (D.getD i default).c)) ∧ ∀ i, i < len → Reads w (D.getD i default).a (D.getD i default).n (D.getD i default).l ∧ (D.getD i default).n ≤ (D.getD i default).c
theorem all_of {X : Type} [Inhabited X] (P : Nat → X → Prop) : ∀ len, (∀ i, i < len → ∃ x, P i x) → ∃ D : List X, D.length = len ∧ ∀ i, i < len → P i (D.getD i default) := by
  intro len
  induction len with
  | zero => intro _; exact ⟨[], rfl, fun i hi => by omega⟩
  | succ n ih =>
    intro h
    obtain ⟨D, hl, hD⟩ := ih (fun i hi => h i (by omega))
    obtain ⟨x, hx⟩ := h n (by omega)
    refine ⟨D ++ [x], by simp [hl], fun i hi => ?_⟩
    by_cases e : i = n
    · subst e
      have : (D ++ [x]).getD i default = x := by simp [List.getD, hl]
      rw [this]; exact hx
    · have : (D ++ [x]).getD i default = D.getD i default := by simp [List.getD, List.getElem?_append, hl, show i < n by omega]
      rw [this]; exact hD i (by omega)
section
open Go.ChangeShapes Go.WideShapes Go.ChangeAt
variable {H : Type} {enc : TypeId × Value → H} {w : World} {base : Nat}
theorem bytes_open {fuel : Nat} {ao : Option Addr} {len cap : Nat} {x : DataW H × List MemPlace} (h : DataW.trod enc Try.prog w base (fun _ => true) true fuel 31 [.slice ao len cap] = some x) : ∃ l, Bytes w ao len cap l := by
  rcases open_ints Try.underlying31 Try.underlying5 (by kernel_rfl) h with ⟨hcs, _⟩ | ⟨x, l, c', zs, hcs, _, hl, hm, hz, _, hcell, hwz⟩
  · simp at hcs
    obtain ⟨rfl, rfl, rfl⟩ := hcs
    exact bytes_of_row (w := w) (a := none) (len := 0) (cap := 0) (zs := []) (.inl ⟨rfl, rfl, rfl, rfl⟩)
  · simp at hcs
    obtain ⟨rfl, rfl, rfl⟩ := hcs
    exact bytes_of_row (w := w) (a := some x) (len := len) (cap := cap) (zs := zs) (.inr ⟨x, rfl, hl, hm, by simpa using hz, hcell, hwz⟩)
end
end Go.Proofs.Ytpjbgcbjelcnbaa.wnd
