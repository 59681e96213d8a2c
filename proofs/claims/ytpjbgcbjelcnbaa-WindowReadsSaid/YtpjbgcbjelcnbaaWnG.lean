/- What a window that isn't strict keeps of rising numbers, as mathematics; a window whose blocks are of a set. -/
import Derived.Test.YtpjbgcbjelcnbaaWnF
import Derived.Test.YtpjbgcbjelcnbaaOpU
import Derived.Deep.CutRange
import Derived.Deep.CutBlock
namespace Go.Proofs.Ytpjbgcbjelcnbaa.wnd
open Go.RowKit mem rowz dskw
set_option linter.unusedVariables false

def gapN (x : Int) : Int := wrap64 ((IntKind.u64.wrap x).tmod 5)
theorem gapN_bd (x : Int) : 0 ≤ gapN x ∧ gapN x < 5 := tmod_in x 5 (by decide) (by decide)
def lst (G : List Int) : Nat → Int
  | 0 => -1
  | i + 1 => lst G i + 1 + gapN (G.getD i 0)
theorem lst_bd (G : List Int) : ∀ i : Nat, (i : Int) - 1 ≤ lst G i ∧ lst G i ≤ 5 * (i : Int) - 1 := by
  intro i
  induction i with
  | zero => show _ ≤ (-1 : Int) ∧ (-1 : Int) ≤ _; omega
  | succ i ih =>
    have := gapN_bd (G.getD i 0)
    show _ ≤ lst G i + 1 + gapN (G.getD i 0) ∧ lst G i + 1 + gapN (G.getD i 0) ≤ _
    omega
theorem lst_lt (G : List Int) {i j : Nat} (h : i < j) : lst G i < lst G j := by
  induction j with
  | zero => omega
  | succ j ih =>
    have := gapN_bd (G.getD j 0)
    have e : lst G (j + 1) = lst G j + 1 + gapN (G.getD j 0) := rfl
    by_cases q : i = j
    · subst q; omega
    · have := ih (by omega); omega
def fS (G : List Int) (j : Nat) : Kp := ⟨lst G (j + 1), [1], [j]⟩
def hit (G : List Int) (mo n : Nat) (z : Int) (k : Nat) : Bool := (List.range' (n - mo) k).any (fun j => decide (lst G (j + 1) = z))
theorem hit_zero (G : List Int) (mo n : Nat) (z : Int) : hit G mo n z 0 = false := rfl
theorem hit_succ (G : List Int) (mo n : Nat) (z : Int) (k : Nat) : hit G mo n z (k + 1) = (hit G mo n z k || decide (lst G (n - mo + k + 1) = z)) := by
  unfold hit
  rw [rng_succ, List.any_append]
  simp
theorem ks_last (G : List Int) (mo n : Nat) (hm : 1 ≤ mo) : lastK (KN mo (fS G) n) = lst G n := by
  unfold lastK KN
  rw [List.length_map, List.length_range']
  by_cases h : n = 0
  · subst h; rw [if_pos (by omega)]; rfl
  · rw [if_neg (by omega)]
    have h1 : min n mo - 1 < (List.range' (n - mo) (min n mo)).length := by rw [List.length_range']; omega
    have e : ((List.range' (n - mo) (min n mo)).map (fS G)).getD (min n mo - 1) default = fS G (n - 1) := by
      simp only [List.getD, List.getElem?_map, List.getElem?_eq_getElem h1, Option.map_some, Option.getD_some, List.getElem_range']
      congr 1
      omega
    rw [e]
    show lst G (n - 1 + 1) = _
    rw [show n - 1 + 1 = n by omega]
theorem ks_find (G : List Int) (mo n : Nat) (z : Int) : (hit G mo n z (min n mo) = false ∧ (KN mo (fS G) n).find? (fun x => decide (x.n = z)) = none) ∨ (hit G mo n z (min n mo) = true ∧ ∃ j, (KN mo (fS G) n).find? (fun x => decide (x.n = z)) = some (fS G j)) := by
  unfold hit KN
  generalize List.range' (n - mo) (min n mo) = R
  rw [List.find?_map]
  have e : ((fun x : Kp => decide (x.n = z)) ∘ fS G) = fun j => decide (lst G (j + 1) = z) := rfl
  rw [e]
  cases h : R.find? (fun j => decide (lst G (j + 1) = z)) with
  | none =>
    refine .inl ⟨?_, rfl⟩
    rw [List.any_eq_false]
    intro j hj
    exact List.find?_eq_none.1 h j hj
  | some j =>
    refine .inr ⟨?_, j, rfl⟩
    rw [List.any_eq_true]
    exact ⟨j, List.mem_of_find?_eq_some h, List.find?_some (p := fun j => decide (lst G (j + 1) = z)) h⟩
theorem ks_look (G : List Int) (mo n : Nat) (z : Int) (hm : 1 ≤ mo) (h0 : 0 ≤ z) (h1 : z ≤ 1000) : lookE (KN mo (fS G) n) false z [1] = (if hit G mo n z (min n mo) = true then 0 else if z ≤ lst G n then 13 else 7) ∧ lookE (KN mo (fS G) n) false z [2] = (if hit G mo n z (min n mo) = true then 14 else if z ≤ lst G n then 13 else 7) := by
  have hr : ¬ (z < 0 ∨ 4611686018427387904 < z) := by omega
  unfold lookE lookR lookK
  simp only [if_neg hr]
  rcases ks_find G mo n z with ⟨e1, e2⟩ | ⟨e1, j, e2⟩
  · rw [e1, e2]
    dsimp only
    rw [ks_last G mo n hm]
    by_cases q : z ≤ lst G n <;> simp [q]
  · rw [e1, e2]
    constructor
    · simp [fS]
    · simp [fS]
theorem ks_new (G : List Int) (mo n : Nat) (hm : 1 ≤ mo) (hn : n ≤ 20) : lookE (KN mo (fS G) n) false (lst G (n + 1)) [1] = 7 := by
  have hb := lst_bd G (n + 1)
  rw [(ks_look G mo n (lst G (n + 1)) hm (by omega) (by omega)).1]
  have hl := lst_lt G (show n < n + 1 by omega)
  have hh : hit G mo n (lst G (n + 1)) (min n mo) = false := by
    unfold hit
    rw [List.any_eq_false]
    intro j hj
    obtain ⟨i, hi, rfl⟩ := List.mem_range'.1 hj
    have := lst_lt G (show n - mo + 1 * i + 1 < n + 1 by omega)
    simp only [decide_eq_true_eq]
    omega
  rw [hh]
  simp
  omega
theorem ks_step (G : List Int) (mo n : Nat) (hm : 1 ≤ mo) (hn : n ≤ 20) : keepE (KN mo (fS G) n) false ⟨lst G (n + 1), [1], [n]⟩ = 0 ∧ keepR (KN mo (fS G) n) (1 + ((mo - 1 : Nat) : Int)) false ⟨lst G (n + 1), [1], [n]⟩ = KN mo (fS G) (n + 1) := by
  have e : keepE (KN mo (fS G) n) false ⟨lst G (n + 1), [1], [n]⟩ = 0 := by
    unfold keepE
    dsimp only
    rw [ks_new G mo n hm hn, if_pos rfl, if_neg (by simp)]
  refine ⟨e, ?_⟩
  unfold keepR
  rw [if_pos e]
  unfold keepK
  rw [List.length_append, kn_len, List.length_singleton]
  have hA : KN mo (fS G) n ++ [⟨lst G (n + 1), [1], [n]⟩] = (List.range' (n - mo) (min n mo + 1)).map (fS G) := by
    unfold KN
    rw [rng_succ, List.map_append]
    have : n - mo + min n mo = n := by omega
    rw [this]; rfl
  rw [hA]
  by_cases h : n < mo
  · rw [if_neg (by omega)]
    unfold KN
    have a1 : n - mo = n + 1 - mo := by omega
    have a2 : min n mo + 1 = min (n + 1) mo := by omega
    rw [a1, a2]
  · rw [if_pos (by omega)]
    unfold KN
    rw [← List.map_drop, List.range'_succ, List.drop_succ_cons, List.drop_zero]
    have a1 : n - mo + 1 = n + 1 - mo := by omega
    have a2 : min n mo = min (n + 1) mo := by omega
    rw [a1, a2]
/-- a window whose blocks are of S -/
def WS (S : Nat → Prop) (w : World) (p : Nat) (most : Int) (strict : Bool) (K : List Kp) : Prop := ∃ v L, L.map Kd.kp = K ∧ WnAt S w p most strict v L
theorem WS.only {S T : Nat → Prop} {w w' : World} {p : Nat} {most : Int} {strict : Bool} {K : List Kp} (h : WS S w p most strict K) (ho : Only T w w') (hT : ∀ q, S q → ¬ T q) : WS S w' p most strict K := by
  obtain ⟨v, L, e, hw⟩ := h
  exact ⟨v, L, e, hw.only ho hT⟩
theorem WS.quiet {S : Nat → Prop} {w w' : World} {p : Nat} {most : Int} {strict : Bool} {K : List Kp} (h : WS S w p most strict K) (ho : Only (fun _ => False) w w') : WS S w' p most strict K := h.only ho (fun _ _ f => f)
theorem WS.mono {S T : Nat → Prop} {w : World} {p : Nat} {most : Int} {strict : Bool} {K : List Kp} (h : WS S w p most strict K) (hT : ∀ q, q < w.heap.size → S q → T q) : WS T w p most strict K := by
  obtain ⟨v, L, e, hw⟩ := h
  refine ⟨v, L, e, hw.c0, hw.c1, hw.c2, hw.f2, hw.own, hw.np, hw.len, hw.mo, hw.nb, hT _ hw.lt hw.sp, fun q e => hT _ (hw.own.lt e) (hw.sv q e), fun x hx => ⟨⟨(hw.kd x hx).1.1, (hw.kd x hx).1.2.1, (hw.kd x hx).1.2.2.1, fun y e => ?_⟩, ⟨(hw.kd x hx).2.1, (hw.kd x hx).2.2.1, (hw.kd x hx).2.2.2.1, fun y e => ?_⟩⟩⟩
  · obtain ⟨h1, h2, h3⟩ := (hw.kd x hx).1.2.2.2 y e
    exact ⟨h1, hT _ h1 h2, h3⟩
  · obtain ⟨h1, h2, h3⟩ := (hw.kd x hx).2.2.2.2 y e
    exact ⟨h1, hT _ h1 h2, h3⟩
def KeptS (S : Nat → Prop) (p : Nat) (most : Int) (strict : Bool) (w : World) (E : Int) (K' : List Kp) (e : Ending) (w' : World) : Prop := e = .returned (.int .i64 E) ∧ WS (fun q => S q ∨ w.heap.size ≤ q) w' p most strict K' ∧ Only S w w'
theorem ws_keep {S : Nat → Prop} {w : World} {p : Nat} {most : Int} {strict : Bool} {K : List Kp} (h : WS S w p most strict K) (n : Int) (a : Option Addr) (m c : Nat) (q : List Nat) (a2 : Option Addr) (m2 c2 : Nat) (r : List Nat) (hr : Reads w a m q) (hr2 : Reads w a2 m2 r) : Calls Try.prog 31 #[.pointer (some ⟨p, 0, none⟩), .int .i64 n, .slice a m c, .slice a2 m2 c2] w (KeptS S p most strict w (keepE K strict ⟨n, q, r⟩) (keepR K most strict ⟨n, q, r⟩)) := by
  obtain ⟨v, L, rfl, hw⟩ := h
  exact (wkeep_any p most strict v L n a m c q a2 m2 c2 r w hw hr hr2).mono fun _ _ ⟨e, ⟨v', L', e2, hw'⟩, ho⟩ => ⟨e, ⟨v', L', e2, hw'⟩, ho⟩
theorem ws_look {S : Nat → Prop} {w : World} {p : Nat} {most : Int} {strict : Bool} {K : List Kp} (h : WS S w p most strict K) (n : Int) (a : Option Addr) (m c : Nat) (q : List Nat) (hr : Reads w a m q) : Calls Try.prog 28 #[.pointer (some ⟨p, 0, none⟩), .int .i64 n, .slice a m c] w (Looked w (lookE K strict n q) (lookA K strict n q)) := by
  obtain ⟨v, L, rfl, hw⟩ := h
  exact wlook_any p most strict v L n a m c q w hw hr
theorem ws_last {S : Nat → Prop} {w : World} {p : Nat} {most : Int} {strict : Bool} {K : List Kp} (h : WS S w p most strict K) : Calls Try.prog 32 #[.pointer (some ⟨p, 0, none⟩)] w fun e w' => e = .returned (.int .i64 (lastK K)) ∧ Only (fun _ => False) w w' := by
  obtain ⟨v, L, rfl, hw⟩ := h
  exact wlast_any p most strict v L w hw
theorem ws_len {S : Nat → Prop} {w : World} {p : Nat} {most : Int} {strict : Bool} {K : List Kp} (h : WS S w p most strict K) : Calls Try.prog 33 #[.pointer (some ⟨p, 0, none⟩)] w fun e w' => e = .returned (.int .i64 K.length) ∧ Only (fun _ => False) w w' := by
  obtain ⟨v, L, rfl, hw⟩ := h
  rw [List.length_map]
  exact wlen_any p most strict v L w hw
/-- rows of ints of the call's own -/
def OwnI (w : World) (v : Value) (l : List Int) : Prop := w.ownsRow 0 3 1 v l.length (iv l)
theorem OwnI.nil (w : World) : OwnI w (.slice none 0 0) [] := World.ownsRow_nil _ _ _ _
theorem OwnI.only {S : Nat → Prop} {w w' : World} {v : Value} {ls : List Int} (h : OwnI w v ls) (ho : Only S w w') (hs : ∀ k, v.ownBlock = some k → ¬ S k) : OwnI w' v ls := owns_only ho h hs
theorem OwnI.lt {w : World} {v : Value} {l : List Int} (h : OwnI w v l) {q : Nat} (hq : v.ownBlock = some q) : q < w.heap.size := by
  rcases h.2 with ⟨hv, _⟩ | ⟨g, cap, cur, hv, hg, hh, _⟩
  · rw [hv] at hq; cases hq
  · rw [hv] at hq
    cases hq
    exact heap_lt hh
theorem iv_append (a b : List Int) : iv (a ++ b) = iv a ++ iv b := by simp [iv]
theorem news_int {W : World} {g : Nat} {x : Int} (hg : g = W.heap.size) (t : TypeId) : ∀ j u, (iv [x])[j]? = some u → (W.alloc (.cells #[.int .i64 x] t)).cell? ((Addr.mk g 0 none).add j) = some u := by
  intro j u hu
  subst hg
  rw [add_none, Go.Joins.cell_of_block (cs := #[.int .i64 x]) (t := t) (fr := (0, 0)) (by rw [heap_alloc, if_pos rfl])]
  rw [← hu]
  simp [iv]
theorem OwnI.reads {w : World} {v : Value} {l : List Int} (h : OwnI w v l) (hb : ∀ c ∈ l, -9223372036854775808 ≤ c ∧ c ≤ 9223372036854775807) (hm : l.length ≤ 1000000) : ∃ a cap, v = .slice a l.length cap ∧ ReadsI w a l.length l := by
  have h0 := h
  rcases h.2 with ⟨hv, hn⟩ | ⟨g, cap, cur, hv, hg, hh, hc, hmm, _⟩
  · exact ⟨none, 0, by rw [hv, hn], ⟨rfl, by unfold maxLen; omega, hb, .inl hn⟩⟩
  · refine ⟨some ⟨g, 0, none⟩, cap, hv, ?_⟩
    have h1 : w.ownsRow 0 3 1 (.slice (some ⟨g, 0, none⟩) l.length cap) l.length (iv l) := by rw [← hv]; exact h0
    exact ReadsI.of_owns h1 (by unfold maxLen; omega) hb
def numL (G : List Int) (n : Nat) : List Int := (List.range n).map (fun j => lst G (j + 1))
theorem numL_succ (G : List Int) (n : Nat) : numL G (n + 1) = numL G n ++ [lst G (n + 1)] := by unfold numL; rw [List.range_succ, List.map_append]; rfl
theorem numL_len (G : List Int) (n : Nat) : (numL G n).length = n := by simp [numL]
theorem numL_get (G : List Int) (n j : Nat) (h : j < n) : (numL G n).getD j 0 = lst G (j + 1) := by simp [numL, List.getD, h]
theorem numL_in (G : List Int) (n : Nat) (hn : n ≤ 20) : ∀ c ∈ numL G n, -9223372036854775808 ≤ c ∧ c ≤ 9223372036854775807 := by
  intro c hc
  obtain ⟨j, hj, rfl⟩ := List.mem_map.1 hc
  have := List.mem_range.1 hj
  have := lst_bd G (j + 1)
  omega
end Go.Proofs.Ytpjbgcbjelcnbaa.wnd
