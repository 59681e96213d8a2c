/- Several texts together: IntM, JnL, JnN, JdA. -/
import Derived.Test.YtkbaafgaaiekpaaGreatPeriodRestoresZ6
import Derived.Test.YtkbaafgaaiekpaaGreatPeriodRestoresZ11
import Derived.Test.YtkbaafgaaiekpaaGreatPeriodRestoresZ12
import Derived.Test.YtkbaafgaaiekpaaGreatPeriodRestoresZ13
import Derived.Laws.BitsAllLaws
import Derived.IntWalk
import Derived.RowKit
import Derived.Sort.OwnSorted
open List (set_cons_succ)
namespace Go.Proofs.YtkbaafgaaiekpaaGreat.intm
open Go.RowKit
set_option linter.unusedVariables false
theorem wrap_i64 (n : Int) : IntKind.i64.wrap n = (n + 9223372036854775808) % 18446744073709551616 - 9223372036854775808 := by
  simp [IntKind.wrap, IntKind.bits, IntKind.signed]; split <;> omega
theorem wrap64_eq (n : Int) : wrap64 n = (n + 9223372036854775808) % 18446744073709551616 - 9223372036854775808 := by unfold wrap64; rfl
theorem wrap64_in (z : Int) : -9223372036854775808 ≤ wrap64 z ∧ wrap64 z ≤ 9223372036854775807 := by rw [wrap64_eq]; omega
end Go.Proofs.YtkbaafgaaiekpaaGreat.intm
namespace Go.Proofs.YtkbaafgaaiekpaaGreat.jnw
open Go.RowKit mem accm accn entw entm bigw intm
set_option linter.unusedVariables false
theorem rep_set (x : Int) : ∀ (n k : Nat), k < n → ((List.replicate n (0 : Int)).set k x).sum = x := by
  intro n
  induction n with
  | zero => intro k h; omega
  | succ n ih =>
    intro k h
    cases k with
    | zero => simp [List.replicate_succ]
    | succ k => rw [List.replicate_succ, set_cons_succ, List.sum_cons, ih k (by omega)]; omega
theorem rep_set0 : ∀ (n k : Nat), (List.replicate n (0 : Int)).set k 0 = List.replicate n 0 := by
  intro n
  induction n with
  | zero => intro k; rfl
  | succ n ih =>
    intro k
    cases k with
    | zero => rfl
    | succ k => rw [List.replicate_succ, set_cons_succ, ih k]
def rowX (op : Nat) (x : Int) : List Int := noughts.set op x
theorem rowX_sum {op : Nat} (h : op < 32) (x : Int) : (rowX op x).sum = x := rep_set x 32 op h
theorem rowX_0 (op : Nat) : rowX op 0 = noughts := rep_set0 32 op
theorem noughts_sum : noughts.sum = 0 := by rw [← rowX_0 0, rowX_sum (by omega)]
end Go.Proofs.YtkbaafgaaiekpaaGreat.jnw
namespace Go.Proofs.YtkbaafgaaiekpaaGreat.jnw
open Go.RowKit mem accm accn entw entm acck
set_option linter.unusedVariables false
def rsum (C : Ac → Option (List Int)) (a : Ac) : Int := ((C a).getD noughts).sum
def tot (C : Ac → Option (List Int)) (K : List Ac) : Int := (K.map (rsum C)).sum
def InvK (C : Ac → Option (List Int)) (K : List Ac) (s : Int) : Prop := K.Nodup ∧ (∀ i, i ∈ K ↔ (C i).isSome = true) ∧ (tot C K - s) % 18446744073709551616 = 0
theorem rowAdd_sum {r : List Int} (hr : r.length = 32) {op : Nat} (h : op < 32) (x : Int) : ((rowAdd r op x).sum - (r.sum + x)) % 18446744073709551616 = 0 := by
  unfold rowAdd; rw [sum_set r op _ (by omega)]; unfold wrap64; omega
theorem tot_ne {C : Ac → Option (List Int)} {a : Ac} {l : List Int} : ∀ {K : List Ac}, a ∉ K → tot (updA C a l) K = tot C K := by
  intro K
  induction K with
  | nil => intro _; rfl
  | cons x r ih =>
    intro h; rw [List.mem_cons, not_or] at h; unfold tot at ih ⊢; rw [List.map_cons, List.map_cons, List.sum_cons, List.sum_cons, ih h.2]; have : rsum (updA C a l) x = rsum C x := (by unfold rsum updA; rw [if_neg (fun e => h.1 e.symm)]); rw [this]
theorem tot_in {C : Ac → Option (List Int)} {a : Ac} {l : List Int} : ∀ {K : List Ac}, K.Nodup → a ∈ K → tot (updA C a l) K = tot C K - rsum C a + l.sum := by
  intro K
  induction K with
  | nil => intro _ h; cases h
  | cons x r ih =>
    intro hn h; rw [List.nodup_cons] at hn
    by_cases e : a = x
    · subst e; have h1 := tot_ne (C := C) (a := a) (l := l) hn.1; unfold tot at h1 ⊢; rw [List.map_cons, List.map_cons, List.sum_cons, List.sum_cons, h1]; have : rsum (updA C a l) a = l.sum := (by unfold rsum updA; rw [if_pos rfl]; rfl); rw [this]; omega
    · have h1 := ih hn.2 ((List.mem_cons.1 h).resolve_left e); unfold tot at h1 ⊢; rw [List.map_cons, List.map_cons, List.sum_cons, List.sum_cons, h1]; have : rsum (updA C a l) x = rsum C x := (by unfold rsum updA; rw [if_neg (fun e2 => e e2.symm)]); rw [this]; omega
theorem InvK.upd {C : Ac → Option (List Int)} {K : List Ac} {s : Int} (h : InvK C K s) (hrow : ∀ a, ((C a).getD noughts).length = 32) {op : Nat} (hop : op < 32) (a : Ac) (x : Int) : ∃ K', InvK (updA C a (rowAdd ((C a).getD noughts) op x)) K' (s + x) := by
  obtain ⟨h1, h2, h3⟩ := h; have hs := rowAdd_sum (hrow a) hop x; have hmem : ∀ i, ((updA C a (rowAdd ((C a).getD noughts) op x)) i).isSome = true ↔ i = a ∨ (C i).isSome = true := by
    intro i; unfold updA
    by_cases e : i = a
    · rw [if_pos e]; simp [e]
    · rw [if_neg e]; simp [e]
  by_cases ha : a ∈ K
  · refine ⟨K, h1, fun i => ?_, ?_⟩
    · rw [hmem, h2]
      constructor
      · exact .inr
      · rintro (e | e)
        · rw [e]; exact (h2 a).1 ha
        · exact e
    · rw [tot_in h1 ha]; have : rsum C a = ((C a).getD noughts).sum := rfl; omega
  · refine ⟨a :: K, List.nodup_cons.2 ⟨ha, h1⟩, fun i => ?_, ?_⟩
    · rw [hmem, List.mem_cons, h2]
    · have hn : C a = none := by
        cases hc : C a with
        | none => rfl
        | some l => exact absurd ((h2 a).2 (by rw [hc]; rfl)) ha
      have e1 : tot (updA C a (rowAdd ((C a).getD noughts) op x)) (a :: K) = (rowAdd ((C a).getD noughts) op x).sum + tot C K := by
        have h4 := tot_ne (C := C) (a := a) (l := rowAdd ((C a).getD noughts) op x) ha; unfold tot at h4 ⊢; rw [List.map_cons, List.sum_cons, h4]; have : rsum (updA C a (rowAdd ((C a).getD noughts) op x)) a = (rowAdd ((C a).getD noughts) op x).sum := (by unfold rsum; unfold updA; rw [if_pos rfl]; rfl); rw [this]
      have e2 : ((C a).getD noughts).sum = 0 := (by rw [hn]; exact noughts_sum); rw [e1]; omega
theorem updA_len {C : Ac → Option (List Int)} (h : ∀ a, ((C a).getD noughts).length = 32) (b : Ac) (op : Nat) (x : Int) : ∀ a, (((updA C b (rowAdd ((C b).getD noughts) op x)) a).getD noughts).length = 32 := by
  intro a; unfold updA
  by_cases e : a = b
  · rw [if_pos e]; simp [rowAdd, h b]
  · rw [if_neg e]; exact h a
def amts (ls : List Lg) : Int := (ls.map (·.a)).sum
theorem InvK.add {op : Nat} (hop : op < 32) : ∀ (ls : List Lg) {C : Ac → Option (List Int)} {K : List Ac} {s : Int}, InvK C K s → (∀ a, ((C a).getD noughts).length = 32) → ∃ K', InvK (addC C op ls) K' (s + amts ls) := by
  intro ls
  induction ls with
  | nil => intro C K s h _; exact ⟨K, by simpa [amts, addC] using h⟩
  | cons l r ih =>
    intro C K s h hr; obtain ⟨K1, h1⟩ := h.upd hr hop (lgA l) l.a; obtain ⟨K2, h2⟩ := ih h1 (updA_len hr (lgA l) op l.a); exact ⟨K2, by
      have e : s + amts (l :: r) = s + l.a + amts r := (by simp [amts]; omega); rw [e]; exact h2⟩
theorem InvK.nil : InvK (fun _ => none) [] 0 := ⟨List.nodup_nil, fun i => by simp, by simp [tot]⟩
def InvR (C : Ac → Option (List Int)) (op : Nat) : Prop := ∀ a p, op < p → ((C a).getD noughts).getD p 0 = 0
theorem rep_get (n p : Nat) : (List.replicate n (0 : Int)).getD p 0 = 0 := by
  simp only [List.getD, List.getElem?_replicate]; split <;> rfl
theorem InvR.nil (op : Nat) : InvR (fun _ => none) op := fun a p _ => rep_get 32 p
theorem InvR.add {op : Nat} : ∀ (ls : List Lg) {C : Ac → Option (List Int)}, InvR C op → InvR (addC C op ls) op := by
  intro ls
  induction ls with
  | nil => intro C h; exact h
  | cons l r ih =>
    intro C h; refine ih (fun a p hp => ?_); unfold updA
    by_cases e : a = lgA l
    · rw [if_pos e]; show (rowAdd ((C (lgA l)).getD noughts) op l.a).getD p 0 = 0; unfold rowAdd; have := h (lgA l) p hp; simp only [List.getD] at this ⊢; rw [List.getElem?_set_ne (by omega)]; exact this
    · rw [if_neg e]; exact h a p hp
theorem InvR.close {C : Ac → Option (List Int)} {op : Nat} (h : InvR C op) : InvR C (op + 1) := fun a p hp => h a p (by omega)
structure Es where
  kd : Int
  a : Option Addr
  n : Nat
  c : Nat
  per : Nat
  ls : List Lg
deriving Inhabited
def encE (x : Es) : List Value := [.int .i64 x.kd, .slice x.a x.n x.c]
def ev (l : List Es) : List Value := l.flatMap encE
theorem ev_cons (x : Es) (r : List Es) : ev (x :: r) = encE x ++ ev r := by simp [ev]
theorem ev_append (a b : List Es) : ev (a ++ b) = ev a ++ ev b := by simp [ev]
theorem ev_one (l : List Es) : ∀ u ∈ ev l, u.oneCell' = true := by
  intro u hu; simp only [ev, List.mem_flatMap] at hu; obtain ⟨x, _, hx⟩ := hu; simp [encE] at hx; rcases hx with rfl | rfl <;> rfl
theorem ev_drop : ∀ (l : List Es) (k : Nat), (ev l).drop (k * 2) = ev (l.drop k) := by
  intro l
  induction l with
  | nil => intro k; simp [ev]
  | cons x r ih =>
    intro k
    cases k with
    | zero => simp [ev]
    | succ k =>
      have e : (k + 1) * 2 = k * 2 + 2 := (by omega); rw [e, List.drop_succ_cons, ev_cons, ← ih k]
      rfl
theorem ev_get (l : List Es) (i c : Nat) (hi : i < l.length) (hc : c < 2) : (ev l)[i * 2 + c]? = (encE (l.getD i default))[c]? := by
  have h : l.drop i = l.getD i default :: l.drop (i + 1) := (by rw [List.drop_eq_getElem_cons hi]; simp [List.getD, hi]); rw [← List.getElem?_drop, ev_drop, h, ev_cons, List.getElem?_append_left (by show c < 2; exact hc)]
def OwnE (w : World) (v : Value) (l : List Es) : Prop := w.ownsRow 0 75 2 v l.length (ev l)
def whens (l : List Es) : List Int := List.map (fun x : Es => (x.per : Int)) l
def OwnN (w : World) (v : Value) (l : List Int) : Prop := w.ownsRow 0 3 1 v l.length (iv l)
theorem own_lt {w : World} {base n size : Nat} {e : TypeId} {v : Value} {xs : List Value} (h : w.ownsRow base e size v n xs) {q : Nat} (hq : v.ownBlock = some q) : q < w.heap.size := by
  rcases h.2 with ⟨hv, hn⟩ | ⟨g, cap, cur, hv, hg, hh, _⟩
  · rw [hv] at hq; simp [Value.ownBlock] at hq
  · rw [hv] at hq; have e : g = q := (by simpa [Value.ownBlock] using hq); rw [← e]; exact heap_lt hh
theorem own_form {w : World} {base n size : Nat} {e : TypeId} {v : Value} {xs : List Value} (h : w.ownsRow base e size v n xs) : (v = .slice none 0 0 ∧ n = 0) ∨ ∃ g cap, v = .slice (some ⟨g, 0, none⟩) n cap ∧ g < w.heap.size ∧ n ≤ cap ∧ cap ≤ maxLen := by
  rcases h.2 with ⟨hv, hn⟩ | ⟨g, cap, cur, hv, hg, hh, hc, hm, _⟩
  · exact .inl ⟨hv, hn⟩
  · exact .inr ⟨g, cap, hv, heap_lt hh, hc, hm⟩
theorem OwnE.cell {w : World} {g n cap : Nat} {l : List Es} (h : OwnE w (.slice (some ⟨g, 0, none⟩) n cap) l) {i : Nat} (hi : i < l.length) (hn : n = l.length) : w.cell? ⟨g, i * 2, none⟩ = some (.int .i64 (l.getD i default).kd) ∧ w.cell? ⟨g, i * 2 + 1, none⟩ = some (.slice (l.getD i default).a (l.getD i default).n (l.getD i default).c) := by
  subst hn; have e : ∀ c, c < 2 → w.cell? ⟨g, i * 2 + c, none⟩ = (encE (l.getD i default))[c]? := fun c hc => by
    have h1 : w.ownsRow 0 75 2 (.slice (some ⟨g, 0, none⟩) l.length cap) l.length (ev l) := h; rw [h1.cellAt (i * 2 + c) (by omega), ev_get l i c hi hc]
  exact ⟨e 0 (by omega), e 1 (by omega)⟩
theorem OwnN.cell {w : World} {g n cap : Nat} {l : List Int} (h : OwnN w (.slice (some ⟨g, 0, none⟩) n cap) l) {i : Nat} (hi : i < l.length) (hn : n = l.length) : w.cell? ⟨g, i, none⟩ = some (.int .i64 (l.getD i 0)) := by
  subst hn; have h1 : w.ownsRow 0 3 1 (.slice (some ⟨g, 0, none⟩) l.length cap) l.length (iv l) := h; rw [h1.cellAt i (by omega)]; simp [iv, List.getD, hi]
structure DjAt (S : Nat → Prop) (w : World) (p : Nat) (vL vW : Value) (op : Nat) (D : List Es) : Prop where
  c0 : w.cell? ⟨p, 0, none⟩ = some vL
  c1 : w.cell? ⟨p, 1, none⟩ = some vW
  c2 : w.cell? ⟨p, 2, none⟩ = some (.int .i64 (op : Int))
  f0 : w.frozen? ⟨p, 0, none⟩ = false
  f1 : w.frozen? ⟨p, 1, none⟩ = false
  f2 : w.frozen? ⟨p, 2, none⟩ = false
  le : op < 32
  oL : OwnE w vL D
  oW : OwnN w vW (whens D)
  sp : S p
  sL : ∀ q, vL.ownBlock = some q → S q ∧ q ≠ p
  sW : ∀ q, vW.ownBlock = some q → S q ∧ q ≠ p ∧ vL.ownBlock ≠ some q
  ls : ∀ x ∈ D, ReadsL w x.a x.n x.ls ∧ chk x.kd x.ls = 0 ∧ x.per ≤ op ∧ ∀ y, x.a = some y → S y.block ∧ y.block ≠ p ∧ vL.ownBlock ≠ some y.block ∧ vW.ownBlock ≠ some y.block
  len : D.length ≤ 16384
theorem DjAt.lt {S : Nat → Prop} {w : World} {p : Nat} {vL vW : Value} {op : Nat} {D : List Es} (h : DjAt S w p vL vW op D) : p < w.heap.size := World.block_lt_of_cell? w _ h.c0
theorem DjAt.only {S T : Nat → Prop} {w w' : World} {p : Nat} {vL vW : Value} {op : Nat} {D : List Es} (h : DjAt S w p vL vW op D) (ho : Only T w w') (hT : ∀ q, S q → ¬ T q) : DjAt S w' p vL vW op D :=
  ⟨ho.cell' h.c0 (hT _ h.sp), ho.cell' h.c1 (hT _ h.sp), ho.cell' h.c2 (hT _ h.sp), (ho.frozen (p := ⟨p, 0, none⟩) h.lt (hT _ h.sp)).trans h.f0, (ho.frozen (p := ⟨p, 1, none⟩) h.lt (hT _ h.sp)).trans h.f1, (ho.frozen (p := ⟨p, 2, none⟩) h.lt (hT _ h.sp)).trans h.f2, h.le,
    owns_only ho h.oL (fun k e => hT _ (h.sL k e).1), owns_only ho h.oW (fun k e => hT _ (h.sW k e).1), h.sp, h.sL, h.sW, fun x hx => ⟨(h.ls x hx).1.only ho (fun y e => hT _ ((h.ls x hx).2.2.2 y e).1), (h.ls x hx).2⟩, h.len⟩
theorem DjAt.quiet {S : Nat → Prop} {w w' : World} {p : Nat} {vL vW : Value} {op : Nat} {D : List Es} (h : DjAt S w p vL vW op D) (ho : Only (fun _ => False) w w') : DjAt S w' p vL vW op D := h.only ho (fun _ _ f => f)
theorem DjAt.mono {S T : Nat → Prop} {w : World} {p : Nat} {vL vW : Value} {op : Nat} {D : List Es} (h : DjAt S w p vL vW op D) (hT : ∀ q, S q → T q) : DjAt T w p vL vW op D :=
  ⟨h.c0, h.c1, h.c2, h.f0, h.f1, h.f2, h.le, h.oL, h.oW, hT _ h.sp, fun q e => ⟨hT _ (h.sL q e).1, (h.sL q e).2⟩, fun q e => ⟨hT _ (h.sW q e).1, (h.sW q e).2⟩, fun x hx => ⟨(h.ls x hx).1, (h.ls x hx).2.1, (h.ls x hx).2.2.1, fun y e => ⟨hT _ ((h.ls x hx).2.2.2 y e).1, ((h.ls x hx).2.2.2 y e).2⟩⟩, h.len⟩
theorem same_any (x y : Lg) (w : World) : Calls Tryz.prog 112 #[.agg #[.int .i64 x.k, .int .i64 x.n, .int .i64 x.g, .int .i64 x.a], .agg #[.int .i64 y.k, .int .i64 y.n, .int .i64 y.g, .int .i64 y.a]] w fun e w' => e = .returned (.bool (decide (lgA x = lgA y))) ∧ Only (fun _ => False) w w' := by
  have HO : Hid (∀ o1 o2, Only (fun _ => False) w ((w.alloc o1).alloc o2)) := Lib.hid (fun o1 o2 => ((Only.refl _ w).alloc o1).alloc o2); obtain ⟨xk, xn, xg, xa⟩ := x; obtain ⟨yk, yn, yg, ya⟩ := y; have hd : decide (lgA ⟨xk, xn, xg, xa⟩ = lgA ⟨yk, yn, yg, ya⟩) = ((xk == yk) && ((xn == yn) && (xg == yg))) := by
    unfold lgA; rw [Bool.eq_iff_iff]; simp
  rw [hd]; dsimp only; clear hd
  by_cases h1 : xk = yk
  · subst h1; have b1 : (xk == xk) = true := by simp
    by_cases h2 : xn = yn
    · subst h2; have b2 : (xn == xn) = true := (by simp); obtain ⟨b3, hb3⟩ : ∃ b, (xg == yg) = b := ⟨_, rfl⟩; rw [b1, b2, hb3]; go_enter Tryz.func112, Tryz.ntmps112
      (go_wp2_with fail); go_ret
      exact ⟨by simp, HO.out _ _⟩
    · have b2 : (xn == yn) = false := (by simpa using h2); rw [b1, b2]; go_enter Tryz.func112, Tryz.ntmps112
      (go_wp2_with fail); go_ret
      exact ⟨by simp, HO.out _ _⟩
  · have b1 : (xk == yk) = false := (by simpa using h1); rw [b1]; go_enter Tryz.func112, Tryz.ntmps112
    (go_wp2_with fail); go_ret
    exact ⟨by simp, HO.out _ _⟩
def legSum (a : Ac) : List Lg → Int
  | [] => 0
  | l :: r => (if lgA l = a then l.a else 0) + legSum a r
theorem legSum_append (a : Ac) : ∀ (x y : List Lg), legSum a (x ++ y) = legSum a x + legSum a y := by
  intro x
  induction x with
  | nil => intro y; simp [legSum]
  | cons l r ih => intro y; show (if _ then _ else _) + legSum a (r ++ y) = (if _ then _ else _) + legSum a r + legSum a y; rw [ih]; omega
def movD (a : Ac) (per : Int) : List Es → Int
  | [] => 0
  | x :: r => (if 0 ≤ per ∧ (x.per : Int) ≠ per then 0 else legSum a x.ls) + movD a per r
theorem movD_append (a : Ac) (per : Int) : ∀ (x y : List Es), movD a per (x ++ y) = movD a per x + movD a per y := by
  intro x
  induction x with
  | nil => intro y; simp [movD]
  | cons l r ih => intro y; show (if _ then _ else _) + movD a per (r ++ y) = (if _ then _ else _) + movD a per r + movD a per y; rw [ih]; omega
theorem take_snocE (L : List Es) (k : Nat) (h : k < L.length) : L.take (k + 1) = L.take k ++ [L.getD k default] := by
  rw [List.take_succ_eq_append_getElem h]; have : L.getD k default = L[k] := (by simp [List.getD, h]); rw [this]
theorem movD_take {a : Ac} {per : Int} {D : List Es} {k : Nat} (h : k < D.length) : movD a per (D.take (k + 1)) = movD a per (D.take k) + (if 0 ≤ per ∧ ((D.getD k default).per : Int) ≠ per then 0 else legSum a (D.getD k default).ls) := by
  rw [take_snocE D k h, movD_append]; show _ + ((if _ then _ else _) + movD a per []) = _
  simp [movD]
theorem legSum_take {a : Ac} {ls : List Lg} {k : Nat} (h : k < ls.length) : legSum a (ls.take (k + 1)) = legSum a (ls.take k) + (if lgA (ls.getD k default) = a then (ls.getD k default).a else 0) := by
  rw [take_snocL ls k h, legSum_append]; show _ + ((if _ then _ else _) + legSum a []) = _
  simp [legSum]
end Go.Proofs.YtkbaafgaaiekpaaGreat.jnw
