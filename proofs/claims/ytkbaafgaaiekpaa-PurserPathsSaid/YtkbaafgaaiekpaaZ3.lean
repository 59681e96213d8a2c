/- Several texts together: PuF, PuG, PuH, PuK, PuL, PuO. -/
import Derived.Test.YtkbaafgaaiekpaaZ2
namespace Go.Proofs.Ytkbaafgaaiekpaa.puw
open Go.RowKit mem entm
set_option linter.unusedVariables false

theorem perm_two {x y : Lg} {ls : List Lg} (h : ls.Perm [x, y]) (hs : entw.Sorted ls) (hxy : ltA x y) : ls = [x, y] := by
  match ls, h, hs with
  | [], h, _ => have := h.length_eq; simp at this
  | [a], h, _ => have := h.length_eq; simp at this
  | [a, b], h, hs =>
    have h1 : ¬ ltA b a := by
      unfold entw.Sorted at hs
      rw [List.pairwise_cons] at hs
      exact hs.1 b (by simp)
    have ha : a = x ∨ a = y := by have := h.mem_iff (a := a); simp at this; exact this
    have hb : b = x ∨ b = y := by have := h.mem_iff (a := b); simp at this; exact this
    have hx : x = a ∨ x = b := by have := h.mem_iff (a := x); simp at this; exact this
    have hy : y = a ∨ y = b := by have := h.mem_iff (a := y); simp at this; exact this
    rcases ha with rfl | rfl
    · rcases hy with e | rfl
      · rcases hb with rfl | rfl
        · rw [e]
        · rfl
      · rfl
    · rcases hx with e | rfl
      · exact absurd (e ▸ hxy) (ltA_irrefl _)
      · exact absurd hxy h1
  | a :: b :: c :: r, h, _ => have := h.length_eq; simp at this
/-- what can be posted -/
structure Good (kind m gr : Int) (path : List Int) : Prop where
  k : 1 ≤ kind ∧ kind ≤ 6
  m : 1 ≤ m ∧ m ≤ 9007199254740992
  nd : path.Nodup
  len : 1 ≤ path.length ∧ path.length ≤ 3
  ok : ∀ n ∈ path, 1 ≤ n ∧ n ≤ 32
  one : kind = 1 ∨ kind = 5 → path.length = 1
  g : kind = 4 ∨ kind = 6 → 1 ≤ gr ∧ gr ≤ 8
theorem Good.mk0 {kind m gr : Int} {path : List Int} (h : Good kind m gr path) : entw.mkNo kind m path = 0 := by
  have hk : kindB kind = true := by have := h.k; unfold kindB; simp; omega
  have hp : entw.pathB path = true := by unfold entw.pathB; exact decide_eq_true ⟨h.len.1, h.len.2, h.nd⟩
  unfold entw.mkNo
  rw [if_neg (by rw [hk]; simp), if_neg]
  rintro (e | e)
  · exact e h.m
  · rw [hp] at e; cases e
theorem one_of {l : List Int} (h : l.length = 1) : ∃ n, l = [n] := by
  match l, h with
  | [n], _ => exact ⟨n, rfl⟩
theorem raw1 (m gr n : Int) : rawL 1 m gr [n] = [⟨1, 0, 0, m⟩, ⟨2, n, 0, -m⟩] := by
  show [⟨1, 0, 0, m * 1⟩, (⟨2, n, 0, -m⟩ : Lg)] = _
  rw [Int.mul_one]
theorem raw5 (m gr n : Int) : rawL 5 m gr [n] = [⟨2, n, 0, m⟩, ⟨5, n, 0, -m⟩] := rfl
theorem two_chk {k : Int} {x y : Lg} (hk : 1 ≤ k ∧ k ≤ 6) (hx : accB x = true) (hy : accB y = true) (ax : amtB x.a = true) (ay : amtB y.a = true) (hs : x.a + y.a = 0) (hl : ltA x y) : chk k [x, y] = 0 := by
  refine (chk_ok k _).2 ⟨by unfold kindB; simp; omega, by simp, fun l hl => ?_, by simp; omega, ?_⟩
  · simp at hl
    rcases hl with rfl | rfl
    · exact ⟨hx, ax⟩
    · exact ⟨hy, ay⟩
  · rw [List.pairwise_cons, List.pairwise_cons]
    exact ⟨fun z hz => by simp at hz; rw [hz]; exact hl, (fun z hz => by cases hz), List.Pairwise.nil⟩
theorem Good.chk0 {kind m gr : Int} {path : List Int} (h : Good kind m gr path) {ls : List Lg} (hp : ls.Perm (rawL kind m gr path)) (hs : entw.Sorted ls) : chk kind ls = 0 := by
  obtain ⟨a1, a2⟩ := amt_of h.m.1 h.m.2
  by_cases k1 : kind = 1
  · obtain ⟨n, rfl⟩ := one_of (h.one (.inl k1))
    have hn := h.ok n (by simp)
    rw [k1, raw1] at hp
    rw [perm_two hp hs (by unfold ltA; simp), k1]
    exact two_chk (by omega) (by unfold accB; simp) (by unfold accB nodeB; simp; omega) a1 a2 (by simp; omega) (by unfold ltA; simp)
  · by_cases k5 : kind = 5
    · obtain ⟨n, rfl⟩ := one_of (h.one (.inr k5))
      have hn := h.ok n (by simp)
      rw [k5, raw5] at hp
      rw [perm_two hp hs (by unfold ltA; simp), k5]
      exact two_chk (by omega) (by unfold accB nodeB; simp; omega) (by unfold accB nodeB; simp; omega) a1 a2 (by simp; omega) (by unfold ltA; simp)
    · have hk : isK kind := by have := h.k; unfold isK; omega
      rw [raw_chk hk h.m.1 h.m.2 h.nd ⟨h.len.1, by have := h.len.2; omega⟩ hp hs (entw.raw_one), if_pos]
      refine ⟨h.ok, ?_⟩
      unfold okG
      by_cases e : kind = 4 ∨ kind = 6
      · exact .inr (.inr (h.g e))
      · have := h.k; omega
theorem Good.no {kind m gr : Int} {path : List Int} (h : Good kind m gr path) {C : AcC → Option (List Int)} {B : Int} (hB : jnw.Bnd C B) (hb : B + 9007199254740992 ≤ 1152921504606846976) {er : Int} (hn : PoNo C kind m gr path er) : er = 0 := by
  rcases hn with rfl | ⟨_, ls, h1, h2, ⟨h3, _⟩ | ⟨h3, rfl⟩⟩
  · exact h.mk0
  · exact absurd (h.chk0 h1 h2) h3
  · exact hB.none hb h3
/-- what a posted entry adds to an account -/
theorem atA_raw {k m g : Int} (hk : ¬ k = 1) (a : AcC) : ∀ p : List Int, p.Nodup → jnw.atA a (rawN k m g p) = if a.n ∈ p then (if jnw.lgA (debL k m a.n g) = a then m else 0) + (if jnw.lgA (creL k m a.n g) = a then -m else 0) else 0
  | [], _ => by rw [if_neg (by simp)]; rfl
  | n :: r, hn => by
    rw [List.nodup_cons] at hn
    have e : jnw.atA a (rawN k m g (n :: r)) = ((if jnw.lgA (debL k m n g) = a then m else 0) + (if jnw.lgA (creL k m n g) = a then -m else 0)) + jnw.atA a (rawN k m g r) := by
      have e1 : rawN k m g (n :: r) = debL k m n g :: creL k m n g :: rawN k m g r := by
        rw [rawN_cons]; unfold nodeL; rw [if_neg hk]; rfl
      rw [e1, jnw.atA_cons, jnw.atA_cons, debL_a, creL_a]
      omega
    rw [e, atA_raw hk a r hn.2]
    by_cases en : a.n = n
    · subst en
      rw [if_pos (show a.n ∈ a.n :: r by simp), if_neg hn.1]
      omega
    · have d1 : ¬ jnw.lgA (debL k m n g) = a := fun e => en (by rw [← e]; exact deb_n hk)
      have d2 : ¬ jnw.lgA (creL k m n g) = a := fun e => en (by rw [← e]; exact cre_n)
      rw [if_neg d1, if_neg d2]
      by_cases em : a.n ∈ r
      · rw [if_pos em, if_pos (show a.n ∈ n :: r by simp [em])]; omega
      · rw [if_neg em, if_neg (show ¬ a.n ∈ n :: r by simp [em, en])]; omega
theorem yes_at {C : AcC → Option (List Int)} {k m g : Int} {path : List Int} {ls : List Lg} (h : PoYes C k m g path ls) (hk : ¬ k = 1) (hn : path.Nodup) (a : AcC) : jnw.atA a ls = if a.n ∈ path then (if jnw.lgA (debL k m a.n g) = a then m else 0) + (if jnw.lgA (creL k m a.n g) = a then -m else 0) else 0 := by
  rw [← atA_raw hk a path hn, ← rawL_ne hk]
  exact atS_perm _ _ _ h.2.1
theorem yes_at1 {C : AcC → Option (List Int)} {m g n : Int} {ls : List Lg} (h : PoYes C 1 m g [n] ls) (a : AcC) : jnw.atA a ls = (if a = ⟨1, 0, 0⟩ then m else 0) + (if a = ⟨2, n, 0⟩ then -m else 0) := by
  have e : jnw.atA a ls = jnw.atA a (rawL 1 m g [n]) := atS_perm _ _ _ h.2.1
  rw [e, raw1, jnw.atA_cons, jnw.atA_cons]
  have z : jnw.atA a [] = 0 := rfl
  have e1 : (jnw.lgA ⟨1, 0, 0, m⟩ = a) = (a = ⟨1, 0, 0⟩) := propext ⟨fun h => h.symm, fun h => h.symm⟩
  have e2 : (jnw.lgA ⟨2, n, 0, -m⟩ = a) = (a = ⟨2, n, 0⟩) := propext ⟨fun h => h.symm, fun h => h.symm⟩
  rw [z]
  simp only [e1, e2]
  omega
/-- a move of what can be posted: the book's own error, or all of it -/
theorem MvR.good {S : Nat → Prop} {w w' : World} {p pb pj : Nat} {A A' : List fnd.Ac} {op : Nat} {C : AcC → Option (List Int)} {L : List jnw.Ps} {kind m gr E : Int} {path : List Int} {e : Ending} (h : MvR S w p pb pj A op C L kind m gr path A' E e w') {B : Int} (hB : jnw.Bnd C B) (hb : B + 9007199254740992 ≤ 1152921504606846976) (hg : E = 0 → Good kind m gr path) :
    e = .returned (.int .i64 E) ∧ Only S w w' ∧ ((E ≠ 0 ∧ Pu S w' p pb pj A op C L) ∨ (E = 0 ∧ ∃ (ls : List Lg) (x : jnw.Ps), PoYes C kind m gr path ls ∧ x.ls = ls ∧ x.kd = kind ∧ x.per = op ∧ Pu (fun q => S q ∨ w.heap.size ≤ q) w' p pb pj A' op (jnw.addC C op ls) (L ++ [x]) ∧ jnw.Bnd (jnw.addC C op ls) (B + 9007199254740992))) := by
  rcases h with ⟨er, h1, rfl, h3, h4, h5⟩ | ⟨h1, rfl, ls, x, h3, h4, h5, h6, h7, h8⟩
  · rcases h5 with rfl | ⟨hE, hno⟩
    · exact ⟨rfl, h4, .inl ⟨h1, h3⟩⟩
    · exact absurd ((hg hE).no hB hb hno) h1
  · exact ⟨by rw [h1], h8, .inr ⟨h1, ls, x, h3, h4, h5, h6, h7, hB.add (by omega) h7.opl h3.2.2.2.1⟩⟩
end Go.Proofs.Ytkbaafgaaiekpaa.puw

namespace Go.Proofs.Ytkbaafgaaiekpaa.puw
open Go.RowKit mem
set_option linter.unusedVariables false

/-- a purse behind n moves -/
structure Pv (S : Nat → Prop) (w : World) (p pb pj : Nat) (A : List fnd.Ac) (n op : Nat) (C : AcC → Option (List Int)) (L : List jnw.Ps) : Prop where
  pu : Pu S w p pb pj A op C L
  bd : jnw.Bnd C (9007199254740992 * (n : Int))
  ln : L.length ≤ 64 * n
  lt : ∀ q, S q → q < w.heap.size
theorem Pv.only {S T : Nat → Prop} {w w' : World} {p pb pj : Nat} {A : List fnd.Ac} {n op : Nat} {C : AcC → Option (List Int)} {L : List jnw.Ps} (h : Pv S w p pb pj A n op C L) (ho : Only T w w') (hT : ∀ q, S q → ¬ T q) : Pv S w' p pb pj A n op C L :=
  ⟨h.pu.only ho hT, h.bd, h.ln, fun q hq => by have := h.lt q hq; have := ho.size; omega⟩
theorem Pv.quiet {S : Nat → Prop} {w w' : World} {p pb pj : Nat} {A : List fnd.Ac} {n op : Nat} {C : AcC → Option (List Int)} {L : List jnw.Ps} (h : Pv S w p pb pj A n op C L) (ho : Only (fun _ => False) w w') : Pv S w' p pb pj A n op C L := h.only ho (fun _ _ f => f)
theorem Pv.up {S : Nat → Prop} {w : World} {p pb pj : Nat} {A : List fnd.Ac} {n m op : Nat} {C : AcC → Option (List Int)} {L : List jnw.Ps} (h : Pv S w p pb pj A n op C L) (hm : n ≤ m) : Pv S w p pb pj A m op C L :=
  ⟨h.pu, h.bd.mono (by omega), by have := h.ln; omega, h.lt⟩
/-- what a move answers, and leaves -/
def PvR (S : Nat → Prop) (w : World) (p pb pj : Nat) (n op : Nat) (C : AcC → Option (List Int)) (L : List jnw.Ps) (kind m gr : Int) (path : List Int) (A' : List fnd.Ac) (E : Int) (e : Ending) (w' : World) : Prop :=
  e = .returned (.int .i64 E) ∧ Only S w w' ∧ ∃ (S' : Nat → Prop) (C' : AcC → Option (List Int)) (L' : List jnw.Ps), (∀ q, S' q → S q ∨ w.heap.size ≤ q) ∧ Pv S' w' p pb pj A' (n + 1) op C' L' ∧ ((E ≠ 0 ∧ C' = C ∧ L' = L) ∨ (E = 0 ∧ ∃ ls x, PoYes C kind m gr path ls ∧ C' = jnw.addC C op ls ∧ L' = L ++ [x] ∧ x.ls = ls ∧ x.kd = kind ∧ x.per = op))
theorem Pv.step {S : Nat → Prop} {w w' : World} {p pb pj : Nat} {A A' : List fnd.Ac} {n op : Nat} {C : AcC → Option (List Int)} {L : List jnw.Ps} {kind m gr E : Int} {path : List Int} {e : Ending} (h : Pv S w p pb pj A n op C L) (hn : n ≤ 126) (hm : MvR S w p pb pj A op C L kind m gr path A' E e w') (hA : E ≠ 0 → A' = A) (hg : E = 0 → Good kind m gr path) : PvR S w p pb pj n op C L kind m gr path A' E e w' := by
  obtain ⟨h1, h2, h3⟩ := hm.good h.bd (by omega) hg
  have hs := h2.size
  refine ⟨h1, h2, ?_⟩
  rcases h3 with ⟨hE, hp⟩ | ⟨hE, ls, x, h3, h4, h5, h6, h7, h8⟩
  · refine ⟨S, C, L, fun q hq => .inl hq, ⟨by rw [hA hE]; exact hp, h.bd.mono (by omega), by have := h.ln; omega, fun q hq => by have := h.lt q hq; omega⟩, .inl ⟨hE, rfl, rfl⟩⟩
  · refine ⟨fun q => (S q ∨ w.heap.size ≤ q) ∧ q < w'.heap.size, _, _, fun q hq => hq.1, ⟨h7.mono (fun q hq hh => ⟨hh, hq⟩), h8.mono (by omega), by rw [List.length_append]; have := h.ln; simp; omega, fun q hq => hq.2⟩, .inr ⟨hE, ls, x, h3, rfl, rfl, h4, h5, h6⟩⟩
theorem good_top {A : List fnd.Ac} (hA : A.length = 33) {k x : Int} (h : fnd.topE A k x = 0) : Good 1 x 0 [k] := by
  have hn : fnd.NodeOk k ∧ fnd.AmtOk x := by
    unfold fnd.topE at h
    by_cases e : fnd.NodeOk k ∧ fnd.AmtOk x
    · exact e
    · rw [if_neg e] at h; exact absurd h (by decide)
  obtain ⟨⟨h1, h2⟩, h3, h4⟩ := hn
  exact ⟨by omega, ⟨h3, h4⟩, by simp, by simp, fun m hm => by rw [List.mem_singleton] at hm; rw [hm]; exact ⟨h1, h2⟩, fun _ => rfl, fun h => by omega⟩
theorem good_path {k x gr : Int} {l : List Int} (hk : 1 ≤ k ∧ k ≤ 6) (hk2 : ¬ (k = 1 ∨ k = 5)) (hg : k = 4 ∨ k = 6 → 1 ≤ gr ∧ gr ≤ 8) (hp : fnd.PathOk l) (hx : fnd.AmtOk x) : Good k x gr l := by
  obtain ⟨h1, h2⟩ := path_nodes hp
  exact ⟨hk, hx, hp.nodup, hp.1, fun n hn => h2 n hn, fun h => absurd h hk2, hg⟩
theorem good_hold {A : List fnd.Ac} {l ls : List Int} {x : Int} (h : fnd.holdE A l ls x = 0) : Good 2 x 0 l := by
  have hp : (fnd.PathOk l ∧ ls.length = l.length ∧ fnd.LOk ls ls.length) ∧ fnd.AmtOk x := by
    unfold fnd.holdE at h
    by_cases e : (fnd.PathOk l ∧ ls.length = l.length ∧ fnd.LOk ls ls.length) ∧ fnd.AmtOk x
    · exact e
    · rw [if_neg e] at h; exact absurd h (by decide)
  exact good_path (by omega) (by omega) (fun h => by omega) hp.1.1 hp.2
theorem good_sh {A : List fnd.Ac} {l : List Int} {k x gr dh du : Int} (hk : 1 ≤ k ∧ k ≤ 6) (hk2 : ¬ (k = 1 ∨ k = 5)) (hg : k = 4 ∨ k = 6 → 1 ≤ gr ∧ gr ≤ 8) (h : fnd.shE A l x dh du = 0) : Good k x gr l := by
  have hp : fnd.PathOk l ∧ fnd.AmtOk x := by
    unfold fnd.shE at h
    by_cases e : fnd.PathOk l ∧ fnd.AmtOk x
    · exact e
    · rw [if_neg e] at h; exact absurd h (by decide)
  exact good_path hk hk2 hg hp.1 hp.2
theorem Pv.top {S : Nat → Prop} {w : World} {p pb pj : Nat} {A : List fnd.Ac} {n op : Nat} {C : AcC → Option (List Int)} {L : List jnw.Ps} (h : Pv S w p pb pj A n op C L) (hn : n ≤ 126) (k x : Int) (hk : entw.InI k) :
    Calls Try.prog 8 #[.pointer (some ⟨p, 0, none⟩), .int .i64 k, .int .i64 x] w (PvR S w p pb pj n op C L 1 x 0 [k] (fnd.topA A k x) (fnd.topE A k x)) :=
  (ptop_any k x w h.pu h.lt (by have := h.ln; omega) hk).mono (fun e w' hm => h.step hn hm (fun e => by unfold fnd.topA; rw [if_neg e]) (good_top h.pu.bok.len))
theorem Pv.hold {S : Nat → Prop} {w : World} {p pb pj : Nat} {A : List fnd.Ac} {n op : Nat} {C : AcC → Option (List Int)} {L : List jnw.Ps} (h : Pv S w p pb pj A n op C L) (hn : n ≤ 126) (a : Option Addr) (len cap : Nat) (l : List Int) (a2 : Option Addr) (m2 c2 : Nat) (ls : List Int) (x : Int) (hr : ReadsI w a len l) (hlc : len ≤ cap) (hcm : cap ≤ 9223372036854775807) (hr2 : ReadsI w a2 m2 ls) (ha : ∀ y, a = some y → ¬ S y.block) :
    Calls Try.prog 13 #[.pointer (some ⟨p, 0, none⟩), .slice a len cap, .slice a2 m2 c2, .int .i64 x] w (PvR S w p pb pj n op C L 2 x 0 l (fnd.holdA A l ls x) (fnd.holdE A l ls x)) :=
  (phold_any a len cap l a2 m2 c2 ls x w h.pu h.lt (by have := h.ln; omega) hr hlc hcm hr2 ha).mono (fun e w' hm => h.step hn hm (fun e => by unfold fnd.holdA; rw [if_neg e]) (good_hold))
theorem Pv.rel {S : Nat → Prop} {w : World} {p pb pj : Nat} {A : List fnd.Ac} {n op : Nat} {C : AcC → Option (List Int)} {L : List jnw.Ps} (h : Pv S w p pb pj A n op C L) (hn : n ≤ 126) (a : Option Addr) (len cap : Nat) (l : List Int) (x : Int) (hr : ReadsI w a len l) (hlc : len ≤ cap) (hcm : cap ≤ 9223372036854775807) (ha : ∀ y, a = some y → ¬ S y.block) :
    Calls Try.prog 15 #[.pointer (some ⟨p, 0, none⟩), .slice a len cap, .int .i64 x] w (PvR S w p pb pj n op C L 3 x 0 l (fnd.shA A l x (-x) 0) (fnd.shE A l x (-x) 0)) :=
  (prel_any a len cap l x w h.pu h.lt (by have := h.ln; omega) hr hlc hcm ha).mono (fun e w' hm => h.step hn hm (fun e => by unfold fnd.shA; rw [if_neg e]) (good_sh (by omega) (by omega) (fun h => by omega)))
theorem Pv.com {S : Nat → Prop} {w : World} {p pb pj : Nat} {A : List fnd.Ac} {n op : Nat} {C : AcC → Option (List Int)} {L : List jnw.Ps} (h : Pv S w p pb pj A n op C L) (hn : n ≤ 126) (a : Option Addr) (len cap : Nat) (l : List Int) (x : Int) (gr : Int) (hg : 1 ≤ gr ∧ gr ≤ 8) (hr : ReadsI w a len l) (hlc : len ≤ cap) (hcm : cap ≤ 9223372036854775807) (ha : ∀ y, a = some y → ¬ S y.block) :
    Calls Try.prog 14 #[.pointer (some ⟨p, 0, none⟩), .slice a len cap, .int .i64 x, .int .i64 gr] w (PvR S w p pb pj n op C L 4 x gr l (fnd.shA A l x (-x) x) (fnd.shE A l x (-x) x)) :=
  (pcom_any a len cap l x gr w h.pu h.lt (by have := h.ln; omega) hr hlc hcm ha (by unfold entw.InI; omega)).mono (fun e w' hm => h.step hn hm (fun e => by unfold fnd.shA; rw [if_neg e]) (good_sh (by omega) (by omega) (fun _ => hg)))
theorem Pv.ref {S : Nat → Prop} {w : World} {p pb pj : Nat} {A : List fnd.Ac} {n op : Nat} {C : AcC → Option (List Int)} {L : List jnw.Ps} (h : Pv S w p pb pj A n op C L) (hn : n ≤ 126) (a : Option Addr) (len cap : Nat) (l : List Int) (x : Int) (gr : Int) (hg : 1 ≤ gr ∧ gr ≤ 8) (hr : ReadsI w a len l) (hlc : len ≤ cap) (hcm : cap ≤ 9223372036854775807) (ha : ∀ y, a = some y → ¬ S y.block) :
    Calls Try.prog 21 #[.pointer (some ⟨p, 0, none⟩), .slice a len cap, .int .i64 x, .int .i64 gr] w (PvR S w p pb pj n op C L 6 x gr l (fnd.shA A l x 0 (-x)) (fnd.shE A l x 0 (-x))) :=
  (pref_any a len cap l x gr w h.pu h.lt (by have := h.ln; omega) hr hlc hcm ha (by unfold entw.InI; omega)).mono (fun e w' hm => h.step hn hm (fun e => by unfold fnd.shA; rw [if_neg e]) (good_sh (by omega) (by omega) (fun _ => hg)))
/-- a balance of its journal -/
theorem Pv.bal {S : Nat → Prop} {w : World} {p pb pj : Nat} {A : List fnd.Ac} {n op : Nat} {C : AcC → Option (List Int)} {L : List jnw.Ps} (h : Pv S w p pb pj A n op C L) (hn : n ≤ 127) (k m g : Int) (ha : accn.InA ⟨k, m, g⟩) :
    Calls Try.prog 23 #[.pointer (some ⟨pj, 0, none⟩), .agg #[.int .i64 k, .int .i64 m, .int .i64 g]] w fun e w' => e = .returned (.int .i64 (jnw.ror C ⟨k, m, g⟩).sum) ∧ Only (fun _ => False) w w' := by
  obtain ⟨v, mm, nn, hj⟩ := h.pu.jn
  refine (jnw.bal_any pj op v mm nn C k m g ha w hj.jc hj.mp).mono ?_
  rintro _ w' ⟨rfl, ho⟩
  have hb := (h.bd ⟨k, m, g⟩).2.1
  have e : wrap64 (((C ⟨k, m, g⟩).getD accn.noughts).sum) = (jnw.ror C ⟨k, m, g⟩).sum := by
    show wrap64 (jnw.ror C ⟨k, m, g⟩).sum = _
    unfold wrap64
    omega
  rw [e]
  exact ⟨rfl, ho⟩
end Go.Proofs.Ytkbaafgaaiekpaa.puw

namespace Go.Proofs.Ytkbaafgaaiekpaa.puw
open Go.RowKit mem
set_option linter.unusedVariables false

theorem read1 (w : World) (t : TypeId) (x : Int) (hx : entw.InI x) {w1 : World} {g : Nat} (hw : w1 = w.alloc (.cells #[.int .i64 x] t)) (hg : g = w.heap.size) : ReadsI w1 (some ⟨g, 0, none⟩) 1 [x] :=
  ⟨rfl, by unfold maxLen; omega, fun c hc => by rw [List.mem_singleton] at hc; rw [hc]; exact hx, .inr ⟨g, 0, rfl, fun i hi => by
    obtain rfl : i = 0 := by omega
    rw [hw]; exact tre.alloc_cell hg rfl⟩⟩
theorem read2 (w : World) (t : TypeId) (x y : Int) (hx : entw.InI x) (hy : entw.InI y) {w1 : World} {g : Nat} (hw : w1 = w.alloc (.cells #[.int .i64 x, .int .i64 y] t)) (hg : g = w.heap.size) : ReadsI w1 (some ⟨g, 0, none⟩) 2 [x, y] :=
  ⟨rfl, by unfold maxLen; omega, fun c hc => by simp at hc; rcases hc with rfl | rfl; exact hx; exact hy, .inr ⟨g, 0, rfl, fun i hi => by
    have hi : i = 0 ∨ i = 1 := by omega
    rcases hi with rfl | rfl
    · rw [hw]; exact tre.alloc_cell hg rfl
    · rw [hw]; exact tre.alloc_cell hg rfl⟩⟩
theorem inA_small (k m g : Int) (h : (-1000 ≤ k ∧ k ≤ 1000) ∧ (-1000 ≤ m ∧ m ≤ 1000) ∧ (-1000 ≤ g ∧ g ≤ 1000)) : accn.InA ⟨k, m, g⟩ := by
  obtain ⟨⟨a, b⟩, ⟨c, d⟩, e, f⟩ := h
  refine ⟨?_, ?_, ?_⟩ <;> (unfold accm.I64; dsimp only; omega)
theorem in_small (x : Int) (h : -1000000 ≤ x ∧ x ≤ 1000000) : entw.InI x := by unfold entw.InI; omega
theorem pnew_v {w w1 : World} {p pb pj : Nat} (h : Pu (fun q => w.heap.size ≤ q) w1 p pb pj fnd.A0 0 (fun _ => none) []) : Pv (fun q => w.heap.size ≤ q ∧ q < w1.heap.size) w1 p pb pj fnd.A0 0 0 (fun _ => none) [] :=
  ⟨h.mono (fun q hq hh => ⟨hh, hq⟩), jnw.Bnd.nil.mono (by omega), Nat.le_refl _, fun q hq => hq.2⟩
def aA1 : List fnd.Ac := fnd.topA fnd.A0 1 9
def aA2 : List fnd.Ac := fnd.holdA aA1 [1] [-1] 4
def aA3 : List fnd.Ac := fnd.shA aA2 [1] 3 (-3) 3
theorem aE1 : fnd.topE fnd.A0 1 9 = 0 := by kernel_rfl
theorem aE2 : fnd.holdE aA1 [1] [-1] 4 = 0 := by kernel_rfl
theorem aE3 : fnd.shE aA2 [1] 3 (-3) 3 = 0 := by kernel_rfl
theorem aL : fnd.left (fnd.acG aA3 1) = 5 := by kernel_rfl
theorem aG : fnd.acG aA3 1 = ⟨9, 0, 0, 3, 1⟩ := by kernel_rfl
theorem none_sum (a : AcC) : (jnw.ror (fun _ => none) a).sum = 0 := by show accn.noughts.sum = 0; decide
set_option maxRecDepth 100000 in
set_option maxHeartbeats 4000000 in
theorem purses_any (w : World) : Calls Try.prog 7 #[] w fun e w' => e = .returned (.bool true) ∧ Only (fun _ => False) w w' := by
  go_enter Try.func7, Try.ntmps7
  go_wp2_with fail
  refine (pnew_any w).mono ?_
  rintro _ w1 ⟨p, pb, pj, rfl, hp1, ho1⟩
  have HV1 := Lib.hid (pnew_v hp1)
  have HO1 := Lib.hid ho1
  have HT := HV1.out.top (by omega) 1 9 (in_small 1 (by omega))
  rw [aE1] at HT
  have HT := Lib.hid HT
  clear hp1 ho1
  go_wp2_with fail
  refine HT.out.mono ?_
  rintro _ w2 ⟨rfl, ho2, S2, C2, L2, hs2, hv2, hc2⟩
  obtain ⟨ls2, x2, hy2, hC2, -⟩ : ∃ ls x, PoYes (fun _ => none) 1 9 0 [1] ls ∧ C2 = jnw.addC (fun _ => none) 0 ls ∧ L2 = [] ++ [x] := by
    rcases hc2 with ⟨h, _⟩ | ⟨_, ls, x, h1, h2, h3, _⟩
    · exact absurd rfl h
    · exact ⟨ls, x, h1, h2, h3⟩
  have HV2 : Hid (Pv S2 w2 p pb pj aA1 1 0 C2 L2) := Lib.hid hv2
  have HS2 : Hid (∀ q, S2 q → w.heap.size ≤ q) := Lib.hid (fun q hq => by rcases hs2 q hq with h | h; exact h.1; have := HO1.out.size; omega)
  have HO2 : Hid (Only (fun _ => False) w w2) := Lib.hid (HO1.out.then ho2 (fun q hq s => by have := s.1; omega))
  have HY2 := Lib.hid hy2
  have HC2 := Lib.hid hC2
  obtain ⟨w3, hw3⟩ : ∃ y, y = (w2.alloc (.cells #[.int .i64 1] 3)).alloc (.cells #[.int .i64 (-1)] 3) := ⟨_, rfl⟩
  obtain ⟨g3, hg3⟩ : ∃ y, y = w2.heap.size := ⟨_, rfl⟩
  obtain ⟨g4, hg4⟩ : ∃ y, y = g3 + 1 := ⟨_, rfl⟩
  have ho3 : Only (fun _ => False) w2 w3 := by rw [hw3]; exact ((Only.refl _ _).alloc _).alloc _
  have hr3 : ReadsI w3 (some ⟨g3, 0, none⟩) 1 [1] := (read1 w2 3 1 (in_small 1 (by omega)) rfl hg3).only (S := fun _ => False) (by rw [hw3]; exact (Only.refl _ _).alloc _) (fun _ _ f => f)
  have hr4 : ReadsI w3 (some ⟨g4, 0, none⟩) 1 [-1] := read1 (w2.alloc (.cells #[.int .i64 1] 3)) 3 (-1) (in_small (-1) (by omega)) hw3 (by simp [hg4, hg3])
  have HH := (HV2.out.quiet ho3).hold (by omega) (some ⟨g3, 0, none⟩) 1 1 [1] (some ⟨g4, 0, none⟩) 1 1 [-1] 4 hr3 (by omega) (by omega) hr4 (fun y e s => by injection e with e; have h1 := HV2.out.lt _ s; rw [← e] at h1; have h1 : g3 < w2.heap.size := h1; omega)
  rw [aE2] at HH
  have HH := Lib.hid HH
  have HO3 : Hid (Only (fun _ => False) w w3) := Lib.hid (HO2.out.trans ho3)
  clear hs2 hv2 hc2 hy2 hC2 ho2 ho3 hr3 hr4 HT
  go_wp2_with fail
  try simp only [← hg3]
  try simp only [← hw3, ← hg4]
  refine (show Calls Try.prog 13 #[.pointer (some ⟨p, 0, none⟩), .slice (some ⟨g3, 0, none⟩) 1 1, .slice (some ⟨g4, 0, none⟩) 1 1, .int .i64 4] w3 _ from HH.out).mono ?_
  rintro _ w5 ⟨rfl, ho5, S5, C5, L5, hs5, hv5, hc5⟩
  obtain ⟨ls5, x5, hy5, hC5, -⟩ : ∃ ls x, PoYes C2 2 4 0 [1] ls ∧ C5 = jnw.addC C2 0 ls ∧ L5 = L2 ++ [x] := by
    rcases hc5 with ⟨h, _⟩ | ⟨_, ls, x, h1, h2, h3, _⟩
    · exact absurd rfl h
    · exact ⟨ls, x, h1, h2, h3⟩
  have HV5 : Hid (Pv S5 w5 p pb pj aA2 2 0 C5 L5) := Lib.hid hv5
  have HS5 : Hid (∀ q, S5 q → w.heap.size ≤ q) := Lib.hid (fun q hq => by rcases hs5 q hq with h | h; exact HS2.out q h; have := HO3.out.size; omega)
  have HO5 : Hid (Only (fun _ => False) w w5) := Lib.hid (HO3.out.then ho5 (fun q hq s => by have := HS2.out q s; omega))
  have HY5 := Lib.hid hy5
  have HC5 := Lib.hid hC5
  obtain ⟨w6, hw6⟩ : ∃ y, y = w5.alloc (.cells #[.int .i64 1] 3) := ⟨_, rfl⟩
  obtain ⟨g6, hg6⟩ : ∃ y, y = w5.heap.size := ⟨_, rfl⟩
  have ho6 : Only (fun _ => False) w5 w6 := by rw [hw6]; exact (Only.refl _ _).alloc _
  have HCM := (HV5.out.quiet ho6).com (by omega) (some ⟨g6, 0, none⟩) 1 1 [1] 3 2 (by omega) (read1 w5 3 1 (in_small 1 (by omega)) hw6 hg6) (by omega) (by omega) (fun y e s => by injection e with e; have h1 := HV5.out.lt _ s; rw [← e] at h1; have h1 : g6 < w5.heap.size := h1; omega)
  rw [aE3] at HCM
  have HCM := Lib.hid HCM
  have HO6 : Hid (Only (fun _ => False) w w6) := Lib.hid (HO5.out.trans ho6)
  clear hs5 hv5 hc5 hy5 hC5 ho5 ho6 HH hw3 hg3 hg4
  go_wp2_with fail
  try simp only [← hw6, ← hg6]
  refine (show Calls Try.prog 14 #[.pointer (some ⟨p, 0, none⟩), .slice (some ⟨g6, 0, none⟩) 1 1, .int .i64 3, .int .i64 2] w6 _ from HCM.out).mono ?_
  rintro _ w7 ⟨rfl, ho7, S7, C7, L7, hs7, hv7, hc7⟩
  obtain ⟨ls7, x7, hy7, hC7, -⟩ : ∃ ls x, PoYes C5 4 3 2 [1] ls ∧ C7 = jnw.addC C5 0 ls ∧ L7 = L5 ++ [x] := by
    rcases hc7 with ⟨h, _⟩ | ⟨_, ls, x, h1, h2, h3, _⟩
    · exact absurd rfl h
    · exact ⟨ls, x, h1, h2, h3⟩
  have HV7 : Hid (Pv S7 w7 p pb pj aA3 3 0 C7 L7) := Lib.hid hv7
  have HO7 : Hid (Only (fun _ => False) w w7) := Lib.hid (HO6.out.then ho7 (fun q hq s => by have := HS5.out q s; omega))
  have hsum : (jnw.ror C7 ⟨4, 1, 2⟩).sum = -3 := by
    rw [hC7, HV5.out.bd.sum (by omega) (by omega) hy7.2.2.2.1, HC5.out, HV2.out.bd.sum (by omega) (by omega) HY5.out.2.2.2.1, HC2.out, jnw.Bnd.nil.sum (by omega) (by omega) HY2.out.2.2.2.1, none_sum, yes_at1 HY2.out, yes_at HY5.out (by omega) (by simp), yes_at hy7 (by omega) (by simp)]
    decide
  have HB := Lib.hid (fun w' (ho : Only (fun _ => False) w7 w') => (HV7.out.quiet ho).bal (by omega) 4 1 2 (inA_small 4 1 2 (by omega)))
  rw [hsum] at HB
  have HA := Lib.hid (pavail_any 1 w7 HV7.out.pu)
  rw [aL] at HA
  have HG := Lib.hid (fun w' (ho : Only (fun _ => False) w7 w') => pget_any 1 w' (HV7.out.pu.quiet ho))
  rw [aG] at HG
  unfold fnd.aggA at HG
  dsimp only at HG
  have HJ := Lib.hid (fun w' (ho : Only (fun _ => False) w7 w') => pjour_any w' (HV7.out.pu.quiet ho))
  have hcmp := fun w' => fnd.ac_cmp ⟨9, 0, 0, 3, 1⟩ ⟨9, 0, 0, 3, 1⟩ (fnd.right_ins (by decide)) (fnd.right_ins (by decide)) w'
  simp only [fnd.aggA, decide_true] at hcmp
  clear hs7 hv7 hc7 hy7 hC7 ho7 HCM hw6 hg6 hsum
  go_wp2_with fail
  refine HA.out.mono ?_
  rintro _ w8 ⟨rfl, ho8⟩
  have HO8 := Lib.hid ho8
  clear ho8 HA
  go_wp2_with fail
  refine (HG.out w8 HO8.out).mono ?_
  rintro _ w9 ⟨rfl, ho9⟩
  have HO9 := Lib.hid (HO8.out.trans ho9)
  clear ho9 HG
  go_wp2_with fail
  refine (HJ.out w9 HO9.out).mono ?_
  rintro _ w10 ⟨rfl, rfl⟩
  go_wp2_with fail
  refine (HB.out w9 HO9.out).mono ?_
  rintro _ w11 ⟨rfl, ho11⟩
  have HO11 := Lib.hid (HO7.out.trans (HO9.out.trans ho11))
  clear ho11 HB
  go_wp2_with fail
  go_ret
  exact ⟨rfl, HO11.out⟩
end Go.Proofs.Ytkbaafgaaiekpaa.puw

namespace Go.Proofs.Ytkbaafgaaiekpaa.puw
open Go.RowKit mem
set_option linter.unusedVariables false

/-- an entry of what expires, as it stands in memory -/
structure Xe where
  b : Nat
  cp : Nat
  n : Int
  av : Int
deriving Inhabited
def exL (n av : Int) : List entm.Lg := [⟨2, n, 0, av⟩, ⟨5, n, 0, -av⟩]
def encX (x : Xe) : List Value := [.int .i64 5, .slice (some ⟨x.b, 0, none⟩) 2 x.cp]
def xv (l : List Xe) : List Value := l.flatMap encX
theorem xv_cons (x : Xe) (r : List Xe) : xv (x :: r) = encX x ++ xv r := by simp [xv]
theorem xv_append (a b : List Xe) : xv (a ++ b) = xv a ++ xv b := by simp [xv]
theorem xv_one (l : List Xe) : ∀ u ∈ xv l, u.oneCell' = true := by
  intro u hu
  simp only [xv, List.mem_flatMap] at hu
  obtain ⟨x, _, hx⟩ := hu
  simp [encX] at hx
  rcases hx with rfl | rfl <;> rfl
theorem xv_drop : ∀ (l : List Xe) (k : Nat), (xv l).drop (k * 2) = xv (l.drop k) := by
  intro l
  induction l with
  | nil => intro k; simp [xv]
  | cons x r ih =>
    intro k
    cases k with
    | zero => simp [xv]
    | succ k =>
      have e : (k + 1) * 2 = k * 2 + 2 := by omega
      rw [e, List.drop_succ_cons, xv_cons, ← ih k]
      rfl
theorem xv_get (l : List Xe) (i c : Nat) (hi : i < l.length) (hc : c < 2) : (xv l)[i * 2 + c]? = (encX (l.getD i default))[c]? := by
  have h : l.drop i = l.getD i default :: l.drop (i + 1) := by rw [List.drop_eq_getElem_cons hi]; simp [List.getD, hi]
  rw [← List.getElem?_drop, xv_drop, h, xv_cons, List.getElem?_append_left (by show c < 2; exact hc)]
def OwnX (w : World) (v : Value) (l : List Xe) : Prop := w.ownsRow 0 68 2 v l.length (xv l)
theorem OwnX.nil (w : World) : OwnX w (.slice none 0 0) [] := World.ownsRow_nil _ _ _ _
theorem OwnX.only {S : Nat → Prop} {w w' : World} {v : Value} {l : List Xe} (h : OwnX w v l) (ho : Only S w w') (hs : ∀ k, v.ownBlock = some k → ¬ S k) : OwnX w' v l := owns_only ho h hs
theorem OwnX.lt {w : World} {v : Value} {l : List Xe} (h : OwnX w v l) {q : Nat} (hq : v.ownBlock = some q) : q < w.heap.size := by
  rcases h.2 with ⟨hv, hn⟩ | ⟨g, cap, cur, hv, hg, hh, _⟩
  · rw [hv] at hq; simp [Value.ownBlock] at hq
  · rw [hv] at hq
    have e : g = q := by simpa [Value.ownBlock] using hq
    rw [← e]; exact heap_lt hh
/-- a row of entries that is read, nil or not -/
def ReadsX (w : World) (a : Option Addr) (len : Nat) (l : List Xe) : Prop := l.length = len ∧ (len = 0 ∨ ∃ g, a = some ⟨g, 0, none⟩ ∧ ∀ k, k < len → w.cell? ⟨g, k * 2, none⟩ = some (.int .i64 5) ∧ w.cell? ⟨g, k * 2 + 1, none⟩ = some (.slice (some ⟨(l.getD k default).b, 0, none⟩) 2 (l.getD k default).cp))
theorem OwnX.reads {w : World} {v : Value} {l : List Xe} (h : OwnX w v l) : ∃ a cap, v = .slice a l.length cap ∧ l.length ≤ cap ∧ cap ≤ maxLen ∧ ReadsX w a l.length l ∧ ∀ y, a = some y → v.ownBlock = some y.block := by
  have h0 := h
  rcases h.2 with ⟨hv, hn⟩ | ⟨g, cap, cur, hv, hg, hh, hc, hm, _⟩
  · have hl : l = [] := List.eq_nil_of_length_eq_zero hn
    subst hl
    exact ⟨none, 0, hv, Nat.le_refl _, by unfold maxLen; omega, ⟨rfl, .inl rfl⟩, fun y e => by cases e⟩
  · refine ⟨_, cap, hv, hc, hm, ⟨rfl, .inr ⟨g, rfl, fun k hk => ?_⟩⟩, fun y e => by cases e; rw [hv]; rfl⟩
    have h1 : w.ownsRow 0 68 2 (.slice (some ⟨g, 0, none⟩) l.length cap) l.length (xv l) := by rw [← hv]; exact h0
    have e : ∀ c, c < 2 → w.cell? ⟨g, k * 2 + c, none⟩ = (encX (l.getD k default))[c]? := fun c hc => by
      rw [h1.cellAt (k * 2 + c) (by omega), xv_get l k c hk hc]
    exact ⟨e 0 (by omega), e 1 (by omega)⟩
theorem ReadsX.only {S : Nat → Prop} {w w' : World} {a : Option Addr} {len : Nat} {l : List Xe} (h : ReadsX w a len l) (ho : Only S w w') (hs : ∀ x, a = some x → ¬ S x.block) : ReadsX w' a len l := by
  refine ⟨h.1, h.2.imp (fun x => x) fun ⟨g, e, hc⟩ => ⟨g, e, fun k hk => ?_⟩⟩
  obtain ⟨c0, c1⟩ := hc k hk
  have hn : ¬ S g := hs _ e
  exact ⟨ho.cell' c0 hn, ho.cell' c1 hn⟩
theorem info_en : (Try.prog.info? 68).map (fun i => (i.zero, i.size, i.bytes)) = some (some (Value.agg #[.int .i64 0, .slice none 0 0]), 2, 32) := by kernel_rfl
theorem infoX {o : Option TypeInfo} {z : Value} {a b : Nat} (h : o.map (fun i => (i.zero, i.size, i.bytes)) = some (some z, a, b)) : ∃ i, o = some i ∧ i.zero = some z ∧ i.size = a ∧ i.bytes = b := by
  cases o with
  | none => cases h
  | some i =>
    simp only [Option.map_some, Option.some.injEq, Prod.mk.injEq] at h
    exact ⟨i, rfl, h.1, h.2.1, h.2.2⟩
/-- an entry's legs, apart from the row -/
def XOk (W0 : Nat) (w : World) (x : Xe) : Prop := W0 ≤ x.b ∧ x.b < w.heap.size ∧ entw.ReadsL w (some ⟨x.b, 0, none⟩) 2 (exL x.n x.av) ∧ (1 ≤ x.n ∧ x.n ≤ 32) ∧ (1 ≤ x.av ∧ x.av ≤ 9007199254740992)
theorem XOk.only {S : Nat → Prop} {W0 : Nat} {w w' : World} {x : Xe} (h : XOk W0 w x) (ho : Only S w w') (hs : ¬ S x.b) : XOk W0 w' x :=
  ⟨h.1, by have := h.2.1; have := ho.size; omega, h.2.2.1.only ho (fun y e => by cases e; exact hs), h.2.2.2⟩
theorem XOk.quiet {W0 : Nat} {w w' : World} {x : Xe} (h : XOk W0 w x) (ho : Only (fun _ => False) w w') : XOk W0 w' x := h.only ho (fun f => f)
/-- which nodes expire, and how much -/
def expN (A : List fnd.Ac) (carry : List Int) (ns : List Int) : List (Int × Int) := ns.flatMap fun n => if fnd.left (fnd.acG A n) = 0 ∨ carry.contains n = true then [] else [(n, fnd.left (fnd.acG A n))]
theorem expN_snoc (A : List fnd.Ac) (carry ns : List Int) (n : Int) : expN A carry (ns ++ [n]) = expN A carry ns ++ (if fnd.left (fnd.acG A n) = 0 ∨ carry.contains n = true then [] else [(n, fnd.left (fnd.acG A n))]) := by
  unfold expN
  rw [List.flatMap_append]
  simp
theorem expN_len (A : List fnd.Ac) (carry : List Int) : ∀ ns : List Int, (expN A carry ns).length ≤ ns.length
  | [] => Nat.le_refl _
  | n :: r => by
    have ih := expN_len A carry r
    have e : expN A carry (n :: r) = (if fnd.left (fnd.acG A n) = 0 ∨ carry.contains n = true then [] else [(n, fnd.left (fnd.acG A n))]) ++ expN A carry r := by simp [expN]
    rw [e, List.length_append, List.length_cons]
    split
    · simp; omega
    · simp; omega
def Xs (l : List Xe) : List (Int × Int) := l.map fun x => (x.n, x.av)
/-- what expiring answers -/
def ExpR (A : List fnd.Ac) (carry : List Int) (w : World) (e : Ending) (w' : World) : Prop := ∃ v xs, e = .returned v ∧ OwnX w' v xs ∧ Xs xs = expN A carry (fnd.nodU A 33) ∧ (∀ x ∈ xs, XOk w.heap.size w' x) ∧ (∀ q, v.ownBlock = some q → w.heap.size ≤ q ∧ ∀ x ∈ xs, x.b ≠ q) ∧ Only (fun _ => False) w w'
theorem take_snocI (l : List Int) (k : Nat) (h : k < l.length) : l.take (k + 1) = l.take k ++ [l.getD k 0] := by
  rw [List.take_add_one, List.getElem?_eq_getElem h, List.getD_eq_getElem?_getD, List.getElem?_eq_getElem h]; rfl
theorem nodU_ok {A : List fnd.Ac} (hA : fnd.Bok A) : ∀ c ∈ fnd.nodU A 33, fnd.NodeOk c := by
  intro c hc
  unfold fnd.nodU at hc
  rw [List.mem_map] at hc
  obtain ⟨j, hj, rfl⟩ := hc
  rw [List.mem_filter] at hj
  have h1 := List.mem_range.1 hj.1
  have h2 : j ≠ 0 := fun e => by
    have := hj.2
    rw [e, hA.z] at this
    simp at this
  unfold fnd.NodeOk
  omega
theorem make5 (n av : Int) (hn : 1 ≤ n ∧ n ≤ 32) (ha : 1 ≤ av ∧ av ≤ 9007199254740992) (a : Option Addr) (cap : Nat) (w : World) (h : ReadsI w a 1 [n]) (hc : 1 ≤ cap) (hcm : cap ≤ 9223372036854775807) :
    Calls Try.prog 55 #[.int .i64 5, .int .i64 av, .slice a 1 cap, .int .i64 0] w fun e w' => Only (fun _ => False) w w' ∧ ∃ b cp, w.heap.size ≤ b ∧ b < w'.heap.size ∧ entw.ReadsL w' (some ⟨b, 0, none⟩) 2 (exL n av) ∧ e = .returned (.tuple #[.agg #[.int .i64 5, .slice (some ⟨b, 0, none⟩) 2 cp], .int .i64 0]) := by
  have hg : Good 5 av 0 [n] := ⟨by omega, ha, by simp, by simp, fun m hm => by rw [List.mem_singleton] at hm; rw [hm]; exact hn, fun _ => rfl, fun h => by omega⟩
  refine (mkd_any 5 av 0 gr0_in a 1 cap [n] w h hc hcm).mono ?_
  rintro e w' ⟨ho, ⟨er, hne, rfl, hno⟩ | ⟨b, cp, ls, h1, h2, h3, h4, h5, h6, rfl⟩⟩
  · exact absurd (hg.no jnw.Bnd.nil (by omega) (hno _)) hne
  · have hl : ls = exL n av := perm_two (by rw [← raw5]; exact h2) h3 (by unfold entm.ltA; simp)
    subst hl
    refine ⟨ho, b, cp, h5, ?_, h6, rfl⟩
    obtain ⟨b2, off, e, hcc⟩ := h6.2.2.2.resolve_left (by show ¬ 2 = 0; omega)
    injection e with e
    injection e with e1 e2
    subst e1
    exact World.block_lt_of_cell? w' _ (hcc 0 (by show 0 < 2; omega)).1
set_option maxRecDepth 100000 in
set_option maxHeartbeats 8000000 in
theorem expiring_any {S : Nat → Prop} {p pb pj : Nat} {A : List fnd.Ac} {op : Nat} {C : AcC → Option (List Int)} {L : List jnw.Ps} (a : Option Addr) (cap : Nat) (carry : List Int) (w : World) (h : Pu S w p pb pj A op C L) (hr : ReadsI w a carry.length carry) :
    Calls Try.prog 29 #[.pointer (some ⟨p, 0, none⟩), .slice a carry.length cap] w (ExpR A carry w) := by
  have HPU := Lib.hid h
  have HR := Lib.hid hr
  have c0 := h.c0
  have HN := Lib.hid (fnd.nodes_any pb A w h.bk h.bok)
  obtain ⟨i0, hi0, hi1, hi2, hi3⟩ := infoX info_en
  obtain ⟨ln, hln⟩ : ∃ x, carry.length = x := ⟨_, rfl⟩
  have HLN := Lib.hid hln
  rw [hln]
  clear h hr hln
  go_enter Try.func29, Try.ntmps29
  go_wp2_with fail
  refine HN.out.mono ?_
  rintro _ w1 ⟨⟨_, rfl, an, cn, rfl, hrn, -⟩, ho1⟩
  have HRN := Lib.hid hrn
  have HO1 := Lib.hid ho1
  have HNI := Lib.hid (nodU_ok HPU.out.bok)
  obtain ⟨ns, hns⟩ : ∃ x, fnd.nodU A 33 = x := ⟨_, rfl⟩
  have HNS := Lib.hid hns
  rw [hns] at HRN HNI
  rw [hns]
  obtain ⟨nn, hnn⟩ : ∃ x, ns.length = x := ⟨_, rfl⟩
  have HNN := Lib.hid hnn
  have hn33 : nn ≤ 33 := by rw [← hnn, ← hns]; exact fnd.nodU_len A 33
  rw [hnn] at HRN
  try rw [hnn]
  clear ho1 HN hrn hns hnn c0
  go_wp2_with fail
  go_loopw [5, 17] (fun vv iv wx => ∃ (i : Nat) (xs : List Xe), i ≤ nn ∧ iv = .int .i64 (i : Int) ∧ Hid (OwnX wx vv xs) ∧ Hid (Xs xs = expN A carry (ns.take i)) ∧ Hid (∀ x ∈ xs, XOk w.heap.size wx x) ∧ Hid (∀ q, vv.ownBlock = some q → w1.heap.size ≤ q ∧ ∀ x ∈ xs, x.b ≠ q) ∧ Hid (Only (fun _ => False) w1 wx)) (fun _ iv _ => nn - (intOf iv).toNat)
  case atStart => exact ⟨0, [], by omega, rfl, Lib.hid (OwnX.nil _), Lib.hid rfl, Lib.hid (fun x hx => by cases hx), Lib.hid (fun q e => by simp [Value.ownBlock] at e), Lib.hid (Only.refl _ _)⟩
  case round =>
    obtain ⟨i, xs, hi, rfl, HOW, HXS, HXO, HVB, HX⟩ := hrel
    rename World => wx
    by_cases h8 : i < nn
    · have hin : (i : Int) < (nn : Int) := by omega
      have hi0' : (0 : Int) ≤ (i : Int) := by omega
      obtain ⟨b, off, rfl, hcell⟩ := HRN.out.2.2.2.resolve_left (by omega)
      have hci := HX.out.cell' (hcell i h8) (fun f => f)
      have c0 := (HO1.out.trans HX.out).cell' HPU.out.c0 (fun f => f)
      have HNX := Lib.hid (expN_snoc A carry (ns.take i) (ns.getD i 0))
      rw [← take_snocI ns i (by rw [HNN.out]; exact h8)] at HNX
      have hnd := HNI.out (ns.getD i 0) (by rw [List.getD_eq_getElem?_getD, List.getElem?_eq_getElem (by rw [HNN.out]; exact h8)]; exact List.getElem_mem _)
      obtain ⟨ni, hni⟩ : ∃ x, ns.getD i 0 = x := ⟨_, rfl⟩
      rw [hni] at hci HNX hnd
      have hrg := fnd.acG_ok HPU.out.bok ni
      have hlv : 0 ≤ fnd.left (fnd.acG A ni) := hrg.2.2
      have hlm := hrg.left_M
      have HAV := Lib.hid (fnd.available_any pb A ni wx (HPU.out.bk.only (HO1.out.trans HX.out) (fun f => f)) HPU.out.bok)
      obtain ⟨av, hav⟩ : ∃ x, fnd.left (fnd.acG A ni) = x := ⟨_, rfl⟩
      rw [hav] at HNX hlv hlm HAV
      clear hcell hni hrg hav
      go_wp2_with fail
      refine HAV.out.mono ?_
      rintro _ w2 ⟨rfl, ho2⟩
      have HX2 := Lib.hid (HX.out.trans ho2)
      have HOW2 := Lib.hid (HOW.out.only ho2 (fun _ _ f => f))
      have HXO2 : Hid (∀ x ∈ xs, XOk w.heap.size w2 x) := Lib.hid (fun x hx => (HXO.out x hx).quiet ho2)
      have HCT : Hid (Calls Try.prog 34 #[.slice a ln cap, .int .i64 ni] w2 fun e w' => e = .returned (.bool (carry.contains ni)) ∧ w2 = w') := Lib.hid (by
        rw [← HLN.out]
        exact tre.contains_any a cap carry ni w2 (HR.out.only (HO1.out.trans HX2.out) (fun _ _ f => f)))
      clear ho2 HAV HX HOW HXO hci c0
      by_cases ha0 : av = 0
      · subst ha0
        have HXN : Hid (Xs xs = expN A carry (ns.take (i + 1))) := Lib.hid (by rw [HNX.out, if_pos (.inl rfl), List.append_nil]; exact HXS.out)
        clear HNX HXS HCT
        go_wp2_with fail
        go_roundw
        case rel => exact ⟨i + 1, xs, by omega, by go_num, HOW2, HXN, HXO2, HVB, HX2⟩
        case measure => (simp [intOf]; omega)
      · have hab : (av == 0) = false := by rw [beq_eq_false_iff_ne]; exact ha0
        obtain ⟨ct, hct⟩ : ∃ x, carry.contains ni = x := ⟨_, rfl⟩
        rw [hct] at HCT HNX
        cases ct
        · have HXN : Hid (expN A carry (ns.take (i + 1)) = Xs xs ++ [(ni, av)]) := Lib.hid (by rw [HNX.out, if_neg (fun h => h.elim ha0 (by simp)), HXS.out])
          obtain ⟨w3, hw3⟩ : ∃ x, x = w2.alloc (.cells #[.int .i64 ni] 3) := ⟨_, rfl⟩
          obtain ⟨g3, hg3⟩ : ∃ x, x = w2.heap.size := ⟨_, rfl⟩
          have ho3 : Only (fun _ => False) w2 w3 := by rw [hw3]; exact (Only.refl _ _).alloc _
          have HMK := Lib.hid (make5 ni av hnd ⟨by omega, hlm⟩ (some ⟨g3, 0, none⟩) 1 w3 (read1 w2 3 ni (by unfold entw.InI; obtain ⟨h1, h2⟩ := hnd; omega) hw3 hg3) (by omega) (by omega))
          have HX3 := Lib.hid (HX2.out.trans ho3)
          have HOW3 := Lib.hid (HOW2.out.only ho3 (fun _ _ f => f))
          have HXO3 : Hid (∀ x ∈ xs, XOk w.heap.size w3 x) := Lib.hid (fun x hx => (HXO2.out x hx).quiet ho3)
          have HND := Lib.hid hnd
          clear ho3 HX2 HOW2 HXO2 HNX HXS hct hnd
          go_wp2_with fail
          refine HCT.out.mono ?_
          rintro _ _ ⟨rfl, rfl⟩
          go_wp2_with fail
          try simp only [← hw3, ← hg3]
          clear hw3 hg3 HCT
          refine HMK.out.mono ?_
          rintro _ w5 ⟨ho5, b5, c5, hb5, hb5', hr5, rfl⟩
          obtain ⟨w6, hw6⟩ : ∃ x, x = w5.alloc (.cells #[.int .i64 5, .slice (some ⟨b5, 0, none⟩) 2 c5] 68) := ⟨_, rfl⟩
          obtain ⟨g6, hg6⟩ : ∃ x, x = w5.heap.size := ⟨_, rfl⟩
          have ho6 : Only (fun _ => False) w5 w6 := by rw [hw6]; exact (Only.refl _ _).alloc _
          have e0 : w6.cell? ⟨g6, 0, none⟩ = some (.int .i64 5) := by rw [hw6]; exact tre.alloc_cell hg6 rfl
          have e1 : w6.cell? ⟨g6, 1, none⟩ = some (.slice (some ⟨b5, 0, none⟩) 2 c5) := by rw [hw6]; exact tre.alloc_cell hg6 rfl
          have HX6 := Lib.hid (HX3.out.trans (ho5.trans ho6))
          have HOW6 := Lib.hid (HOW3.out.only (ho5.trans ho6) (fun _ _ f => f))
          have HXO6 : Hid (∀ x ∈ xs, XOk w.heap.size w6 x) := Lib.hid (fun x hx => (HXO3.out x hx).quiet (ho5.trans ho6))
          have HX5N : Hid (XOk w.heap.size w6 ⟨b5, c5, ni, av⟩) := Lib.hid ⟨by have := HX3.out.size; have := HO1.out.size; show w.heap.size ≤ b5; omega, by have := ho6.size; show b5 < w6.heap.size; omega, hr5.only ho6 (fun _ _ f => f), HND.out, by show 1 ≤ av; omega, hlm⟩
          have HVB5 : Hid (∀ q, u5.ownBlock = some q → b5 ≠ q) := Lib.hid (fun q e => by have := HOW3.out.lt e; omega)
          have hxl : xs.length ≤ 100 := by
            have h1 := congrArg List.length HXN.out
            rw [List.length_append] at h1
            have h2 := expN_len A carry (ns.take (i + 1))
            rw [List.length_take] at h2
            have h3 : (Xs xs).length = xs.length := by unfold Xs; rw [List.length_map]
            simp at h1
            omega
          clear ho5 ho6 hb5 hb5' hr5 HMK HX3 HOW3 HXO3
          go_upto_region 8 with fail
          simp only [← hw6, ← hg6]
          clear hw6 hg6
          have HPW : Hid (∀ o, OwnX (w6.alloc o) u5 xs) := Lib.hid (fun o => HOW6.out.only (S := fun _ => False) ((Only.refl _ _).alloc _) (fun _ _ f => f))
          go_wp2_with (at_builtin; refine append_mine rfl _ _ 63 rfl 68 i0 _ 2 32 Try.underlying63 hi0 hi1 hi2 hi3 rfl (by decide) u5 xs.length _ rfl (HPW.out _) ⟨w6.heap.size, 0, none⟩ 1 1 (encX ⟨b5, c5, ni, av⟩) rfl ?k1 ?k2 ?k3 ?k4 ?k5 ?_)
          case k1 => rfl
          case k2 =>
            intro j u hu
            rw [add_none]
            refine tre.alloc_cell rfl ?_
            simpa [encX] using hu
          case k3 => exact (fun u hu => xv_one [⟨b5, c5, ni, av⟩] u (by simpa [xv] using hu))
          case k4 => unfold maxLen; omega
          case k5 => omega
          intro v9 w9 hown hgrow hkk
          have HOW9 : Hid (OwnX w9 v9 (xs ++ [⟨b5, c5, ni, av⟩])) := Lib.hid (by
            unfold OwnX
            rw [List.length_append, xv_append]
            have e : xv [(⟨b5, c5, ni, av⟩ : Xe)] = encX ⟨b5, c5, ni, av⟩ := by simp [xv]
            rw [e]
            exact hown)
          have hgo := Only.of_grown hgrow
          have hao : Only (fun _ => False) w6 (w6.alloc (.cells #[.int .i64 5, .slice (some ⟨b5, 0, none⟩) 2 c5] 68)) := (Only.refl _ _).alloc _
          have HX9 : Hid (Only (fun _ => False) w1 w9) := Lib.hid ((HX6.out.trans hao).then hgo (fun q hq e => by
            have h1 := (HVB.out q e).1
            omega))
          have HXO9 : Hid (∀ x ∈ xs ++ [(⟨b5, c5, ni, av⟩ : Xe)], XOk w.heap.size w9 x) := Lib.hid (fun x hx => by
            rcases List.mem_append.1 hx with hx | hx
            · exact ((HXO6.out x hx).quiet hao).only hgo (fun e => (HVB.out _ e).2 x hx rfl)
            · rw [List.mem_singleton] at hx
              subst hx
              exact (HX5N.out.quiet hao).only hgo (fun e => HVB5.out _ e rfl))
          have HVB9 : Hid (∀ q, v9.ownBlock = some q → w1.heap.size ≤ q ∧ ∀ x ∈ xs ++ [(⟨b5, c5, ni, av⟩ : Xe)], x.b ≠ q) := Lib.hid (fun q e => by
            have hs6 := HX6.out.size
            have hsa := hao.size
            rcases hkk q e with e2 | e2
            · refine ⟨(HVB.out q e2).1, fun x hx => ?_⟩
              rcases List.mem_append.1 hx with hx | hx
              · exact (HVB.out q e2).2 x hx
              · rw [List.mem_singleton] at hx
                subst hx
                exact HVB5.out q e2
            · have h2 : w6.heap.size ≤ q := by first | omega | (rw [size_alloc] at e2; omega)
              refine ⟨by omega, fun x hx => ?_⟩
              rcases List.mem_append.1 hx with hx | hx
              · have := (HXO6.out x hx).2.1; omega
              · rw [List.mem_singleton] at hx
                subst hx
                have := HX5N.out.2.1
                omega)
          have HXN9 : Hid (Xs (xs ++ [(⟨b5, c5, ni, av⟩ : Xe)]) = expN A carry (ns.take (i + 1))) := Lib.hid (by rw [HXN.out]; unfold Xs; rw [List.map_append]; rfl)
          clear hown hgrow hkk hgo hao HPW HOW6 HXO6 HX6 HVB HXN HX5N HVB5 e0 e1
          go_wp2_with fail
          go_roundw
          case rel => exact ⟨i + 1, _, by omega, by go_num, HOW9, HXN9, HXO9, HVB9, HX9⟩
          case measure => (simp [intOf]; omega)
        · have HXN : Hid (Xs xs = expN A carry (ns.take (i + 1))) := Lib.hid (by rw [HNX.out, if_pos (.inr rfl), List.append_nil]; exact HXS.out)
          clear HNX HXS hct
          go_wp2_with fail
          refine HCT.out.mono ?_
          rintro _ _ ⟨rfl, rfl⟩
          go_wp2_with fail
          go_roundw
          case rel => exact ⟨i + 1, xs, by omega, by go_num, HOW2, HXN, HXO2, HVB, HX2⟩
          case measure => (simp [intOf]; omega)
    · have hin : ¬ (i : Int) < (nn : Int) := by omega
      obtain rfl : nn = i := by omega
      have HEND : Hid (ExpR A carry w (.returned u5) wx) := Lib.hid ⟨u5, xs, rfl, HOW.out, by rw [HXS.out, HNS.out, List.take_of_length_le (by rw [HNN.out]; omega)], HXO.out, fun q e => ⟨by have := (HVB.out q e).1; have := HO1.out.size; omega, (HVB.out q e).2⟩, HO1.out.trans HX.out⟩
      clear HOW HXS HXO HVB HX
      go_wp2_with fail
      go_ret
      exact HEND.out
end Go.Proofs.Ytkbaafgaaiekpaa.puw

namespace Go.Proofs.Ytkbaafgaaiekpaa.puw
open Go.RowKit mem
set_option linter.unusedVariables false

theorem Pv.per {S : Nat → Prop} {w : World} {p pb pj : Nat} {A : List fnd.Ac} {n op : Nat} {C : AcC → Option (List Int)} {L : List jnw.Ps} (h : Pv S w p pb pj A n op C L) : Calls Try.prog 12 #[.pointer (some ⟨pj, 0, none⟩)] w fun e w' => e = .returned (.int .i64 (op : Int)) ∧ w = w' := by
  obtain ⟨v, m, nn, hj⟩ := h.pu.jn
  exact (jnw.period_any pj op v m w hj.jc).mono (fun e w' h => ⟨h.1, h.2.symm⟩)
theorem Pv.len {S : Nat → Prop} {w : World} {p pb pj : Nat} {A : List fnd.Ac} {n op : Nat} {C : AcC → Option (List Int)} {L : List jnw.Ps} (h : Pv S w p pb pj A n op C L) : Calls Try.prog 56 #[.pointer (some ⟨pj, 0, none⟩)] w fun e w' => e = .returned (.int .i64 (L.length : Int)) ∧ w = w' := by
  obtain ⟨v, m, nn, hj⟩ := h.pu.jn
  obtain ⟨a, cap, rfl, -⟩ := hj.own.reads
  exact (jnw.len_any pj op a L.length cap m w hj.jc).mono (fun e w' h => ⟨h.1, h.2.symm⟩)
theorem exL_in {n av : Int} (hn : 1 ≤ n ∧ n ≤ 32) (ha : 1 ≤ av ∧ av ≤ 9007199254740992) (j : Nat) (hj : j < 2) : accn.InA (jnw.lgA ((exL n av).getD j default)) ∧ -9007199254740992 ≤ ((exL n av).getD j default).a ∧ ((exL n av).getD j default).a ≤ 9007199254740992 := by
  have h : j = 0 ∨ j = 1 := by omega
  rcases h with rfl | rfl
  · refine ⟨⟨?_, ?_, ?_⟩, ?_, ?_⟩
    · show accm.I64 2; unfold accm.I64; omega
    · show accm.I64 n; unfold accm.I64; omega
    · show accm.I64 0; unfold accm.I64; omega
    · show -9007199254740992 ≤ av; omega
    · show av ≤ 9007199254740992; omega
  · refine ⟨⟨?_, ?_, ?_⟩, ?_, ?_⟩
    · show accm.I64 5; unfold accm.I64; omega
    · show accm.I64 n; unfold accm.I64; omega
    · show accm.I64 0; unfold accm.I64; omega
    · show -9007199254740992 ≤ -av; omega
    · show -av ≤ 9007199254740992; omega
set_option maxRecDepth 100000 in
set_option maxHeartbeats 8000000 in
theorem takes_any {S : Nat → Prop} {p pb pj : Nat} {A : List fnd.Ac} {n op : Nat} {C : AcC → Option (List Int)} {L : List jnw.Ps} (W0 : Nat) (a : Option Addr) (len cap : Nat) (xs : List Xe) (w : World) (h : Pv S w p pb pj A n op C L) (hn : n ≤ 120) (hr : ReadsX w a len xs) (hx : ∀ x ∈ xs, XOk W0 w x) (hl : len ≤ 40) :
    Calls Try.prog 30 #[.pointer (some ⟨p, 0, none⟩), .slice a len cap] w fun e w' => e = .returned (.int .i64 (if 31 ≤ op then 10 else 0)) ∧ Only (fun _ => False) w w' := by
  have HPV := Lib.hid h
  have HR := Lib.hid hr
  have HXO := Lib.hid hx
  have c1 := h.pu.c1
  have HPE := Lib.hid h.per
  have hop := h.pu.opl
  by_cases h31 : 31 ≤ op
  · rw [if_pos h31]
    have hg : (32 : Int) ≤ (op : Int) + 1 := by omega
    have hw : wrap64 ((op : Int) + 1) = (op : Int) + 1 := by unfold wrap64; omega
    clear h hr hx
    go_enter Try.func30, Try.ntmps30
    go_wp2_with fail
    refine HPE.out.mono ?_
    rintro _ _ ⟨rfl, rfl⟩
    go_wp2_with fail
    go_ret
    exact ⟨rfl, Only.refl _ _⟩
  · rw [if_neg h31]
    have hg : ¬ (32 : Int) ≤ (op : Int) + 1 := by omega
    have hg2 : decide ((32 : Int) ≤ (op : Int) + 1) = false := decide_eq_false hg
    have hw : wrap64 ((op : Int) + 1) = (op : Int) + 1 := by unfold wrap64; omega
    have HLN := Lib.hid h.len
    have hll := h.ln
    obtain ⟨ll, hlle⟩ : ∃ x, L.length = x := ⟨_, rfl⟩
    rw [hlle] at HLN hll
    have hw2 : wrap64 ((ll : Int) + (len : Int)) = (ll : Int) + (len : Int) := by unfold wrap64; omega
    have hg3 : ¬ (16384 : Int) < (ll : Int) + (len : Int) := by omega
    clear h hr hx hlle
    go_enter Try.func30, Try.ntmps30
    go_wp2_with fail
    refine HPE.out.mono ?_
    rintro _ _ ⟨rfl, rfl⟩
    go_wp2_with fail
    refine HLN.out.mono ?_
    rintro _ _ ⟨rfl, rfl⟩
    clear HPE HLN
    go_wp2_with fail
    go_loopw [30] (fun iv wx => ∃ i : Nat, i ≤ len ∧ iv = .int .i64 (i : Int) ∧ Hid (Only (fun _ => False) w wx)) (fun iv _ => len - (intOf iv).toNat)
    case atStart => exact ⟨0, by omega, rfl, Lib.hid (Only.refl _ _)⟩
    case round =>
      obtain ⟨i, hi, rfl, HX⟩ := hrel
      rename World => wx
      by_cases h8 : i < len
      · have hin : (i : Int) < (len : Int) := by omega
        have hi0 : (0 : Int) ≤ (i : Int) := by omega
        obtain ⟨g, rfl, hcell⟩ := HR.out.2.resolve_left (by omega)
        obtain ⟨d0, d1⟩ := hcell i h8
        have e0 := HX.out.cell' d0 (fun f => f)
        have e1 := HX.out.cell' d1 (fun f => f)
        have hmem : xs.getD i default ∈ xs := by
          rw [List.getD_eq_getElem?_getD, List.getElem?_eq_getElem (by rw [HR.out.1]; exact h8)]; exact List.getElem_mem _
        have HXI := Lib.hid (HXO.out _ hmem)
        obtain ⟨xx, hxx⟩ : ∃ x, xs.getD i default = x := ⟨_, rfl⟩
        rw [hxx] at e1 HXI
        obtain ⟨xb, xc, xn, xa⟩ := xx
        dsimp only at e1
        obtain ⟨w3, hw3⟩ : ∃ y, y = wx.alloc (.cells #[.int .i64 5, .slice (some ⟨xb, 0, none⟩) 2 xc] 68) := ⟨_, rfl⟩
        obtain ⟨g3, hg3'⟩ : ∃ y, y = wx.heap.size := ⟨_, rfl⟩
        have ho3 : Only (fun _ => False) wx w3 := by rw [hw3]; exact (Only.refl _ _).alloc _
        have f1 : w3.cell? ⟨g3, 1, none⟩ = some (.slice (some ⟨xb, 0, none⟩) 2 xc) := by rw [hw3]; exact tre.alloc_cell hg3' rfl
        have HX3 := Lib.hid (HX.out.trans ho3)
        clear d0 d1 hcell hmem hxx ho3 HX
        go_upto_region 6 with fail
        simp only [← hw3, ← hg3']
        clear hw3 hg3' e0 e1
        go_wp2_with fail
        go_loopw [37] (fun jv wy => ∃ j : Nat, j ≤ 2 ∧ jv = .int .i64 (j : Int) ∧ Hid (Only (fun _ => False) w wy)) (fun jv _ => 2 - (intOf jv).toNat)
        case atStart => exact ⟨0, by omega, rfl, HX3⟩
        case round =>
          clear HX3 f1
          obtain ⟨j, hj, rfl, HXJ⟩ := hrel
          rename World => wy
          by_cases h9 : j < 2
          · have hjn : (j : Int) < 2 := by omega
            have hj0 : (0 : Int) ≤ (j : Int) := by omega
            obtain ⟨b2, off, eb, hlc⟩ := HXI.out.2.2.1.2.2.2.resolve_left (by show ¬ 2 = 0; omega)
            injection eb with eb
            injection eb with eb1 eb2
            have hlj := hlc j (show j < 2 from h9)
            rw [← eb1, ← eb2] at hlj
            have hin2 := exL_in HXI.out.2.2.2.1 HXI.out.2.2.2.2 j h9
            obtain ⟨lgg, hlg⟩ : ∃ x, (exL xn xa).getD j default = x := ⟨_, rfl⟩
            dsimp only at hlj hin2
            rw [hlg] at hlj hin2
            obtain ⟨lk, ln, lg, la⟩ := lgg
            obtain ⟨q0, q1, q2, q3⟩ := hlj
            dsimp only at q0 q1 q2 q3 hin2
            rw [Nat.zero_add] at q0 q1 q2 q3
            replace q0 := HXJ.out.cell' q0 (fun f => f)
            replace q1 := HXJ.out.cell' q1 (fun f => f)
            replace q2 := HXJ.out.cell' q2 (fun f => f)
            replace q3 := HXJ.out.cell' q3 (fun f => f)
            have HBL0 := Lib.hid (fun w' (ho : Only (fun _ => False) w w') => (HPV.out.quiet ho).bal (by omega) lk ln lg hin2.1)
            have hbb := (HPV.out.bd ⟨lk, ln, lg⟩).2.1
            obtain ⟨bs, hbs⟩ : ∃ x, (jnw.ror C ⟨lk, ln, lg⟩).sum = x := ⟨_, rfl⟩
            rw [hbs] at HBL0 hbb
            have hla := hin2.2
            have hws : wrap64 (bs + la) = bs + la := by unfold wrap64; omega
            have hb1 : ¬ 1152921504606846976 < bs + la := by omega
            have hb2 : ¬ bs + la < -1152921504606846976 := by omega
            obtain ⟨w4, hw4⟩ : ∃ y, y = wy.alloc (.cells #[.int .i64 lk, .int .i64 ln, .int .i64 lg, .int .i64 la] 106) := ⟨_, rfl⟩
            obtain ⟨g4, hg4⟩ : ∃ y, y = wy.heap.size := ⟨_, rfl⟩
            have ho4 : Only (fun _ => False) wy w4 := by rw [hw4]; exact (Only.refl _ _).alloc _
            have HX4 := Lib.hid (HXJ.out.trans ho4)
            have HSL : Hid (∀ w', Only (fun _ => False) w4 w' → w'.cell? ⟨p, 1, none⟩ = some (.pointer (some ⟨pj, 0, none⟩)) ∧ w'.cell? ⟨g4, 0, none⟩ = some (.int .i64 lk) ∧ w'.cell? ⟨g4, 1, none⟩ = some (.int .i64 ln) ∧ w'.cell? ⟨g4, 2, none⟩ = some (.int .i64 lg) ∧ w'.cell? ⟨g4, 3, none⟩ = some (.int .i64 la)) := Lib.hid (fun w' ho => ⟨(HX4.out.trans ho).cell' HPV.out.pu.c1 (fun f => f), ho.cell' (by rw [hw4]; exact tre.alloc_cell hg4 rfl) (fun f => f), ho.cell' (by rw [hw4]; exact tre.alloc_cell hg4 rfl) (fun f => f), ho.cell' (by rw [hw4]; exact tre.alloc_cell hg4 rfl) (fun f => f), ho.cell' (by rw [hw4]; exact tre.alloc_cell hg4 rfl) (fun f => f)⟩)
            have HBL : Hid (∀ w', Only (fun _ => False) w4 w' → Calls Try.prog 23 #[.pointer (some ⟨pj, 0, none⟩), .agg #[.int .i64 lk, .int .i64 ln, .int .i64 lg]] w' fun e w2 => e = .returned (.int .i64 bs) ∧ Only (fun _ => False) w' w2) := Lib.hid (fun w' ho => HBL0.out w' (HX4.out.trans ho))
            clear eb1 eb2 hlc hin2 hlg hbs hbb hla HBL0 ho4 HXJ
            go_upto_region 9 with fail
            simp only [← hw4, ← hg4]
            clear hw4 hg4 q0 q1 q2 q3
            refine wp_region_noPanic ?_
            refine late.region (fun w' => w'.cell? ⟨p, 1, none⟩ = some (.pointer (some ⟨pj, 0, none⟩)) ∧ w'.cell? ⟨g4, 0, none⟩ = some (.int .i64 lk) ∧ w'.cell? ⟨g4, 1, none⟩ = some (.int .i64 ln) ∧ w'.cell? ⟨g4, 2, none⟩ = some (.int .i64 lg) ∧ w'.cell? ⟨g4, 3, none⟩ = some (.int .i64 la)) (fun j => [].contains j) (by kernel_rfl) (HSL.out _ (Only.refl _ _).drew) (fun hHeld => ?_)
            obtain ⟨z0, hz0'⟩ : ∃ x, x = w4.drew := ⟨_, rfl⟩
            rw [← hz0'] at hHeld ⊢
            have hot : Hid (Only (fun _ => False) w4 z0) := Lib.hid (by rw [hz0']; exact (Only.refl _ _).drew)
            clear hz0'
            refine late.take (i := 0) [1, 2, 3, 6, 9, 10] (v := ?_) rfl (by kernel_rfl) (by kernel_rfl) (by kernel_rfl) (by kernel_rfl) (fun _ _ _ h => h) (Or.inl ⟨by rfl, ?_⟩) (by assumption) ?_
            rotate_left 1
            · intro w' hSw
              try dsimp only at hSw
              go_simp
              try with_reducible rfl
            try simp only [List.getElem_toArray, List.getElem_cons_zero, Act.put, List.setIfInBounds_toArray, List.set_cons_zero, List.set_cons_succ]
            refine late.take (i := 1) [2, 3, 6, 9, 10] (v := ?_) rfl (by kernel_rfl) (by kernel_rfl) (by kernel_rfl) (by kernel_rfl) (fun _ _ _ h => h) (Or.inl ⟨by rfl, ?_⟩) (by assumption) ?_
            rotate_left 1
            · intro w' hSw
              try dsimp only at hSw
              go_simp
              try with_reducible rfl
            try simp only [List.getElem_toArray, List.getElem_cons_zero, List.getElem_cons_succ, Act.put, List.setIfInBounds_toArray, List.set_cons_zero, List.set_cons_succ]
            refine late.take (i := 2) [3, 6, 9, 10] (v := ?_) rfl (by kernel_rfl) (by kernel_rfl) (by kernel_rfl) (by kernel_rfl) (fun _ _ _ h => h) (Or.inl ⟨by rfl, ?_⟩) (by assumption) ?_
            rotate_left 1
            · intro w' hSw
              try dsimp only at hSw
              go_simp
              try with_reducible rfl
            try simp only [List.getElem_toArray, List.getElem_cons_zero, List.getElem_cons_succ, Act.put, List.setIfInBounds_toArray, List.set_cons_zero, List.set_cons_succ]
            refine late.take (i := 3) [6, 9, 10] (v := ?_) rfl (by kernel_rfl) (by kernel_rfl) (by kernel_rfl) (by kernel_rfl) (fun _ _ _ h => h) (Or.inl ⟨by rfl, ?_⟩) (by assumption) ?_
            rotate_left 1
            · intro w' hSw
              try dsimp only at hSw
              go_simp
              try with_reducible rfl
            try simp only [List.getElem_toArray, List.getElem_cons_zero, List.getElem_cons_succ, Act.put, List.setIfInBounds_toArray, List.set_cons_zero, List.set_cons_succ]
            refine late.take (i := 4) [5, 6, 9, 10] (v := ?_) rfl (by kernel_rfl) (by kernel_rfl) (by kernel_rfl) (by kernel_rfl) (fun _ _ _ h => h) (Or.inl ⟨by rfl, ?_⟩) (by assumption) ?_
            rotate_left 1
            · intro w' hSw
              try dsimp only at hSw
              go_simp
              try with_reducible rfl
            try simp only [List.getElem_toArray, List.getElem_cons_zero, List.getElem_cons_succ, Act.put, List.setIfInBounds_toArray, List.set_cons_zero, List.set_cons_succ]
            refine late.take (i := 5) [6, 9, 10] (v := ?_) rfl (by kernel_rfl) (by kernel_rfl) (by kernel_rfl) (by kernel_rfl) (fun _ _ _ h => h) (Or.inl ⟨by rfl, ?_⟩) (by assumption) ?_
            rotate_left 1
            · intro w' hSw
              try dsimp only at hSw
              go_simp
              try with_reducible rfl
            try simp only [List.getElem_toArray, List.getElem_cons_zero, List.getElem_cons_succ, Act.put, List.setIfInBounds_toArray, List.set_cons_zero, List.set_cons_succ]
            refine late.take (i := 7) [8, 9, 10] (v := ?_) rfl (by kernel_rfl) (by kernel_rfl) (by kernel_rfl) (by kernel_rfl) (fun _ _ _ h => h) (Or.inl ⟨by rfl, ?_⟩) (by assumption) ?_
            rotate_left 1
            · intro w' hSw
              try dsimp only at hSw
              go_simp
              try with_reducible rfl
            try simp only [List.getElem_toArray, List.getElem_cons_zero, List.getElem_cons_succ, Act.put, List.setIfInBounds_toArray, List.set_cons_zero, List.set_cons_succ]
            refine late.take (i := 8) [9, 10] (v := ?_) rfl (by kernel_rfl) (by kernel_rfl) (by kernel_rfl) (by kernel_rfl) (fun _ _ _ h => h) (Or.inl ⟨by rfl, ?_⟩) (by assumption) ?_
            rotate_left 1
            · intro w' hSw
              try dsimp only at hSw
              go_simp
              try with_reducible rfl
            try simp only [List.getElem_toArray, List.getElem_cons_zero, List.getElem_cons_succ, Act.put, List.setIfInBounds_toArray, List.set_cons_zero, List.set_cons_succ]
            refine late.ready (rs := [6]) (by kernel_rfl) (by simp) ?_
            refine late.Each.cons rfl (fun K hK => ?_) late.Each.nil
            try simp only [List.getElem_toArray, List.getElem_cons_zero, List.getElem_cons_succ]
            go_simp
            go_at_call 23
            with_reducible refine (HBL.out _ hot.out).mono ?_
            rintro _ z1 ⟨rfl, ho⟩
            replace hot := Lib.hid (hot.out.trans ho)
            clear ho HBL
            try dsimp only
            refine hK.out _ _ (fun _ => HSL.out _ hot.out) (fun hHeld1 => ?_)
            replace hHeld1 := hHeld1 rfl
            clear hK K
            try simp only [List.getElem_toArray, List.getElem_cons_zero, List.getElem_cons_succ, Act.put, List.setIfInBounds_toArray, List.set_cons_zero, List.set_cons_succ]
            refine late.take (i := 9) [10] (v := ?_) rfl (by kernel_rfl) (by kernel_rfl) (by kernel_rfl) (by kernel_rfl) (fun _ _ _ h => h) (Or.inl ⟨by rfl, ?_⟩) (by assumption) ?_
            rotate_left 1
            · intro w' hSw
              try dsimp only at hSw
              go_simp
              try with_reducible rfl
            try simp only [List.getElem_toArray, List.getElem_cons_zero, List.getElem_cons_succ, Act.put, List.setIfInBounds_toArray, List.set_cons_zero, List.set_cons_succ]
            refine late.take (i := 10) [] (v := ?_) rfl (by kernel_rfl) (by kernel_rfl) (by kernel_rfl) (by kernel_rfl) (fun _ _ _ h => h) (Or.inl ⟨by rfl, ?_⟩) (by assumption) ?_
            rotate_left 1
            · intro w' hSw
              try dsimp only at hSw
              go_simp
              try with_reducible rfl
            try simp only [List.getElem_toArray, List.getElem_cons_zero, List.getElem_cons_succ, Act.put, List.setIfInBounds_toArray, List.set_cons_zero, List.set_cons_succ]
            refine late.done (by kernel_rfl) ?_ _
            refine NoPanic.normal ?_
            clear hHeld
            have HXN := Lib.hid (HX4.out.trans hot.out)
            clear hot HSL HX4
            go_wp2_with fail
            go_roundw
            case rel => exact ⟨j + 1, by omega, by go_num, HXN⟩
            case measure => (simp [intOf]; omega)
          · have hjn : ¬ (j : Int) < 2 := by omega
            go_wp2_with fail
            go_roundw
            case rel => exact ⟨i + 1, by omega, by go_num, HXJ⟩
            case measure => (simp [intOf]; omega)
      · have hin : ¬ (i : Int) < (len : Int) := by omega
        go_wp2_with fail
        go_ret
        exact ⟨rfl, HX.out⟩
end Go.Proofs.Ytkbaafgaaiekpaa.puw

namespace Go.Proofs.Ytkbaafgaaiekpaa.puw
open Go.RowKit mem
set_option linter.unusedVariables false

theorem bnd_at {C : AcC → Option (List Int)} {B : Int} (h : jnw.Bnd C B) (hB : B ≤ 1152921504606846976) {op : Nat} (hop : op < 32) {ls : List entm.Lg} (hn : (ls.map jnw.lgA).Nodup) (hm : ∀ l ∈ ls, -9007199254740992 ≤ l.a ∧ l.a ≤ 9007199254740992) (a : AcC) : jnw.ror (jnw.addC C op ls) a = (jnw.ror C a).set op ((jnw.ror C a).getD op 0 + jnw.atA a ls) :=
  jnw.addC_at hop ls C hn hm (fun a => (h a).1) (fun l _ => by have := (h (jnw.lgA l)).2.2 op; omega) a
theorem bnd_sum {C : AcC → Option (List Int)} {B : Int} (h : jnw.Bnd C B) (hB : B ≤ 1152921504606846976) {op : Nat} (hop : op < 32) {ls : List entm.Lg} (hn : (ls.map jnw.lgA).Nodup) (hm : ∀ l ∈ ls, -9007199254740992 ≤ l.a ∧ l.a ≤ 9007199254740992) (a : AcC) : (jnw.ror (jnw.addC C op ls) a).sum = (jnw.ror C a).sum + jnw.atA a ls := by
  rw [bnd_at h hB hop hn hm, jnw.sum_set _ _ _ (by rw [(h a).1]; exact hop)]
  omega
theorem bnd_get {C : AcC → Option (List Int)} {B : Int} (h : jnw.Bnd C B) (hB : B ≤ 1152921504606846976) {op : Nat} (hop : op < 32) {ls : List entm.Lg} (hn : (ls.map jnw.lgA).Nodup) (hm : ∀ l ∈ ls, -9007199254740992 ≤ l.a ∧ l.a ≤ 9007199254740992) (a : AcC) (j : Nat) : (jnw.ror (jnw.addC C op ls) a).getD j 0 = (jnw.ror C a).getD j 0 + if j = op then jnw.atA a ls else 0 := by
  rw [bnd_at h hB hop hn hm, jnw.getD_set (by rw [(h a).1]; exact hop)]
  by_cases e : j = op
  · rw [if_pos e, if_pos e, e]
  · rw [if_neg e, if_neg e]; omega
theorem bnd_add {C : AcC → Option (List Int)} {B : Int} (h : jnw.Bnd C B) (hB : B ≤ 1152921504606846976) {op : Nat} (hop : op < 32) {ls : List entm.Lg} (hn : (ls.map jnw.lgA).Nodup) (hm : ∀ l ∈ ls, -9007199254740992 ≤ l.a ∧ l.a ≤ 9007199254740992) : jnw.Bnd (jnw.addC C op ls) (B + 9007199254740992) := fun a => by
  have h1 := jnw.atA_le (a := a) (by omega) hn hm
  refine ⟨by rw [bnd_at h hB hop hn hm, List.length_set]; exact (h a).1, ?_, fun j => ?_⟩
  · rw [bnd_sum h hB hop hn hm]
    have := (h a).2.1
    omega
  · rw [bnd_get h hB hop hn hm]
    have := (h a).2.2 j
    split <;> omega
theorem addC_app (op : Nat) : ∀ (l r : List entm.Lg) (C : AcC → Option (List Int)), jnw.addC C op (l ++ r) = jnw.addC (jnw.addC C op l) op r
  | [], r, C => rfl
  | x :: l, r, C => addC_app op l r _
/-- all legs of what expires -/
def flatX (xs : List Xe) : List entm.Lg := xs.flatMap fun x => exL x.n x.av
theorem flatX_snoc (xs : List Xe) (x : Xe) : flatX (xs ++ [x]) = flatX xs ++ exL x.n x.av := by unfold flatX; rw [List.flatMap_append]; simp
theorem flatX_mem {xs : List Xe} {l : entm.Lg} (h : l ∈ flatX xs) : ∃ x ∈ xs, (jnw.lgA l = ⟨2, x.n, 0⟩ ∧ l.a = x.av) ∨ (jnw.lgA l = ⟨5, x.n, 0⟩ ∧ l.a = -x.av) := by
  unfold flatX at h
  obtain ⟨x, hx, hl⟩ := List.mem_flatMap.1 h
  unfold exL at hl
  simp at hl
  rcases hl with rfl | rfl
  · exact ⟨x, hx, .inl ⟨rfl, rfl⟩⟩
  · exact ⟨x, hx, .inr ⟨rfl, rfl⟩⟩
theorem flatX_nodup : ∀ xs : List Xe, (xs.map (·.n)).Nodup → ((flatX xs).map jnw.lgA).Nodup
  | [], _ => List.nodup_nil
  | x :: r, h => by
    rw [List.map_cons, List.nodup_cons] at h
    have ih := flatX_nodup r h.2
    have hne : ∀ l ∈ flatX r, (jnw.lgA l).n ≠ x.n := fun l hl e => by
      obtain ⟨y, hy, (⟨e1, _⟩ | ⟨e1, _⟩)⟩ := flatX_mem hl
      · rw [e1] at e; exact h.1 (by rw [← e]; exact List.mem_map_of_mem hy)
      · rw [e1] at e; exact h.1 (by rw [← e]; exact List.mem_map_of_mem hy)
    have e : (flatX (x :: r)).map jnw.lgA = ⟨2, x.n, 0⟩ :: ⟨5, x.n, 0⟩ :: (flatX r).map jnw.lgA := rfl
    rw [e]
    refine List.nodup_cons.2 ⟨fun hm => ?_, List.nodup_cons.2 ⟨fun hm => ?_, ih⟩⟩
    · rcases List.mem_cons.1 hm with h2 | h2
      · cases h2
      · obtain ⟨l, hl, e2⟩ := List.mem_map.1 h2
        exact hne l hl (by rw [e2])
    · obtain ⟨l, hl, e2⟩ := List.mem_map.1 hm
      exact hne l hl (by rw [e2])
theorem flatX_amt {xs : List Xe} (h : ∀ x ∈ xs, 1 ≤ x.av ∧ x.av ≤ 9007199254740992) : ∀ l ∈ flatX xs, -9007199254740992 ≤ l.a ∧ l.a ≤ 9007199254740992 := fun l hl => by
  obtain ⟨x, hx, (⟨_, e⟩ | ⟨_, e⟩)⟩ := flatX_mem hl
  · have := h x hx; omega
  · have := h x hx; omega
theorem nodU_nodup (A : List fnd.Ac) : (fnd.nodU A 33).Nodup := by
  unfold fnd.nodU
  rw [List.nodup_iff_pairwise_ne, List.pairwise_map]
  refine ((List.nodup_iff_pairwise_ne.1 List.nodup_range).filter _).imp (fun {a b} h e => h (by omega))
theorem expN_sub (A : List fnd.Ac) (carry : List Int) : ∀ ns : List Int, List.Sublist ((expN A carry ns).map Prod.fst) ns
  | [] => List.Sublist.refl _
  | n :: r => by
    have ih := expN_sub A carry r
    have e : expN A carry (n :: r) = (if fnd.left (fnd.acG A n) = 0 ∨ carry.contains n = true then [] else [(n, fnd.left (fnd.acG A n))]) ++ expN A carry r := by simp [expN]
    rw [e, List.map_append]
    split
    · exact List.Sublist.cons _ ih
    · exact List.Sublist.cons_cons _ ih
theorem xs_nodup {A : List fnd.Ac} {carry : List Int} {xs : List Xe} (h : Xs xs = expN A carry (fnd.nodU A 33)) : (xs.map (·.n)).Nodup := by
  have e : xs.map (·.n) = (Xs xs).map Prod.fst := by unfold Xs; rw [List.map_map]; rfl
  rw [e, h]
  exact (nodU_nodup A).sublist (expN_sub A carry _)
/-- the accounts rolled, and what expired -/
def rollF (carry : List Int) (y : List fnd.Ac × Int) (ns : List Int) : List fnd.Ac × Int := ns.foldl (fun y n => (fnd.rollA y.1 n (carry.contains n), y.2 + fnd.rollN y.1 n (carry.contains n))) y
theorem rollF_snoc (carry : List Int) (y : List fnd.Ac × Int) (ns : List Int) (n : Int) : rollF carry y (ns ++ [n]) = (fnd.rollA (rollF carry y ns).1 n (carry.contains n), (rollF carry y ns).2 + fnd.rollN (rollF carry y ns).1 n (carry.contains n)) := by unfold rollF; rw [List.foldl_append]; rfl
theorem rollN_in {A : List fnd.Ac} (hA : fnd.Bok A) (n : Int) (c : Bool) : 0 ≤ fnd.rollN A n c ∧ fnd.rollN A n c ≤ 9007199254740992 := by
  have hr := fnd.acG_ok hA n
  have h1 := hr.2.2
  have h2 := hr.left_M
  unfold fnd.rollN fnd.goneN
  split
  · split <;> omega
  · omega
/-- what a Roll answers, and leaves -/
def RollR (S : Nat → Prop) (w : World) (p pb pj : Nat) (A : List fnd.Ac) (n op : Nat) (C : AcC → Option (List Int)) (L : List jnw.Ps) (carry : List Int) (e : Ending) (w' : World) : Prop :=
  (31 ≤ op ∧ e = .returned (.tuple #[.int .i64 0, .int .i64 10]) ∧ Only (fun _ => False) w w') ∨
  (op < 31 ∧ e = .returned (.tuple #[.int .i64 (rollF carry (A, 0) (fnd.nodU A 33)).2, .int .i64 0]) ∧ Only S w w' ∧ ∃ (S' : Nat → Prop) (xs : List Xe) (ys : List jnw.Ps), (∀ q, S' q → S q ∨ w.heap.size ≤ q) ∧ Xs xs = expN A carry (fnd.nodU A 33) ∧ ys.map (·.ls) = xs.map (fun x => exL x.n x.av) ∧ (∀ x ∈ xs, (1 ≤ x.n ∧ x.n ≤ 32) ∧ 1 ≤ x.av ∧ x.av ≤ 9007199254740992) ∧ Pv S' w' p pb pj (rollF carry (A, 0) (fnd.nodU A 33)).1 (n + 1) (op + 1) (jnw.addC C op (flatX xs)) (L ++ ys))
theorem ex_good {n av : Int} (hn : 1 ≤ n ∧ n ≤ 32) (ha : 1 ≤ av ∧ av ≤ 9007199254740992) : entm.chk 5 (exL n av) = 0 := by
  have hg : Good 5 av 0 [n] := ⟨by omega, ha, by simp, by simp, fun m hm => by rw [List.mem_singleton] at hm; rw [hm]; exact hn, fun _ => rfl, fun h => by omega⟩
  exact hg.chk0 (List.Perm.refl _) (by unfold entw.Sorted exL entm.ltA; simp)
theorem Pu.close {S : Nat → Prop} {w : World} {p pb pj : Nat} {A : List fnd.Ac} {op : Nat} {C : AcC → Option (List Int)} {L : List jnw.Ps} (h : Pu S w p pb pj A op C L) (hop : op < 31) : Calls Try.prog 35 #[.pointer (some ⟨pj, 0, none⟩)] w fun e w' => e = .returned (.tuple #[.int .i64 ((op + 1 : Nat) : Int), .int .i64 0]) ∧ Pu S w' p pb pj A (op + 1) C L ∧ Only S w w' := by
  obtain ⟨v, m, nn, hj⟩ := h.jn
  refine (jnw.close_yes pj op v m w hj.jc hop).mono ?_
  rintro _ w' ⟨rfl, hj', ho⟩
  have hs := hj.sp
  exact ⟨rfl, ⟨ho.cell' h.c0 (fun e => hs.2.1 e.symm), ho.cell' h.c1 (fun e => hs.2.1 e.symm), h.bk.only ho (fun e => hs.2.2 e.symm), h.bok, ⟨v, m, nn, hj.close hj' ho⟩, h.sp, h.sb, h.ne⟩, ho.mono (fun q _ e => by have e : q = pj := e; rw [e]; exact hs.1)⟩
set_option maxRecDepth 100000 in
set_option maxHeartbeats 16000000 in
theorem proll_any {S : Nat → Prop} {p pb pj : Nat} {A : List fnd.Ac} {n op : Nat} {C : AcC → Option (List Int)} {L : List jnw.Ps} (a : Option Addr) (cap : Nat) (carry : List Int) (w : World) (h : Pv S w p pb pj A n op C L) (hn : n ≤ 120) (hr : ReadsI w a carry.length carry) (ha : ∀ y, a = some y → ¬ S y.block) :
    Calls Try.prog 9 #[.pointer (some ⟨p, 0, none⟩), .slice a carry.length cap] w (RollR S w p pb pj A n op C L carry) := by
  have HPV := Lib.hid h
  have HR := Lib.hid hr
  have HEX := Lib.hid (expiring_any a cap carry w h.pu hr)
  obtain ⟨ln, hln⟩ : ∃ x, carry.length = x := ⟨_, rfl⟩
  have HLN := Lib.hid hln
  rw [hln] at HEX ⊢
  clear h hr hln
  go_enter Try.func9, Try.ntmps9
  go_wp2_with fail
  refine HEX.out.mono ?_
  rintro _ w1 ⟨v, xs, rfl, hox, hxs, hxo, hvb, ho1⟩
  obtain ⟨ax, cx, rfl, -, -, hrx, hax⟩ := hox.reads
  have hxl : xs.length ≤ 33 := by
    have h1 : (Xs xs).length = xs.length := by unfold Xs; rw [List.length_map]
    have h2 := expN_len A carry (fnd.nodU A 33)
    have h3 := fnd.nodU_len A 33
    rw [← h1, hxs]
    omega
  obtain ⟨lx, hlx⟩ : ∃ x, xs.length = x := ⟨_, rfl⟩
  have HLX := Lib.hid hlx
  have HO1 := Lib.hid ho1
  have HXS := Lib.hid hxs
  have HXO := Lib.hid hxo
  have HAX : Hid (∀ y, ax = some y → w.heap.size ≤ y.block ∧ y.block < w1.heap.size) := Lib.hid (fun y e => ⟨(hvb _ (hax y e)).1, hox.lt (hax y e)⟩)
  rw [hlx] at hrx hxl
  try rw [hlx]
  have HRX := Lib.hid hrx
  have HTK := Lib.hid (takes_any w.heap.size ax lx cx xs w1 (HPV.out.quiet ho1) hn hrx hxo (by omega))
  clear hox hxs hxo hvb ho1 hrx hax hlx HEX
  have hop32 := HPV.out.pu.opl
  by_cases h31 : 31 ≤ op
  · rw [if_pos h31] at HTK
    go_wp2_with fail
    refine HTK.out.mono ?_
    rintro _ w2 ⟨rfl, ho2⟩
    have HEND : Hid (RollR S w p pb pj A n op C L carry (.returned (.tuple #[.int .i64 0, .int .i64 10])) w2) := Lib.hid (.inl ⟨h31, rfl, HO1.out.trans ho2⟩)
    clear ho2 HTK
    go_wp2_with fail
    go_ret2
    exact HEND.out
  · rw [if_neg h31] at HTK
    go_wp2_with fail
    refine HTK.out.mono ?_
    rintro _ w2 ⟨rfl, ho2⟩
    have HO2 := Lib.hid (HO1.out.trans ho2)
    have HS12 := Lib.hid ho2.size
    have HP2 : Hid (Pu S w2 p pb pj A op (jnw.addC C op (flatX (xs.take 0))) (L ++ [])) := Lib.hid (by rw [List.append_nil]; exact HPV.out.pu.quiet HO2.out)
    have HRX2 := Lib.hid (HRX.out.only ho2 (fun _ _ f => f))
    have HXO2 : Hid (∀ x ∈ xs, XOk w.heap.size w2 x) := Lib.hid (fun x hx => (HXO.out x hx).quiet ho2)
    clear ho2 HTK HRX HXO
    go_wp2_with fail
    go_loopw [30] (fun iv wx => ∃ (i : Nat) (S' : Nat → Prop) (ys : List jnw.Ps), i ≤ lx ∧ iv = .int .i64 (i : Int) ∧ Hid (Pu S' wx p pb pj A op (jnw.addC C op (flatX (xs.take i))) (L ++ ys)) ∧ Hid (ys.map (·.ls) = (xs.take i).map (fun x => exL x.n x.av)) ∧ Hid (∀ q, S' q → (S q ∨ w2.heap.size ≤ q) ∧ q < wx.heap.size) ∧ Hid (Only S w2 wx)) (fun iv _ => lx - (intOf iv).toNat)
    case atStart => exact ⟨0, S, [], by omega, rfl, HP2, Lib.hid rfl, Lib.hid (fun q hq => ⟨.inl hq, by have := HPV.out.lt q hq; have := HO2.out.size; omega⟩), Lib.hid (Only.refl _ _)⟩
    case round =>
      clear HP2
      obtain ⟨i, S', ys, hi, rfl, HP, HYS, HSS, HX⟩ := hrel
      rename World => wx
      by_cases h8 : i < lx
      · have hin : (i : Int) < (lx : Int) := by omega
        have hi0 : (0 : Int) ≤ (i : Int) := by omega
        obtain ⟨g, rfl, hcell⟩ := HRX2.out.2.resolve_left (by omega)
        obtain ⟨d0, d1⟩ := hcell i h8
        have hgS : ¬ S g := fun s => by have h1 := HPV.out.lt g s; have h2 := (HAX.out _ rfl).1; have h2 : w.heap.size ≤ g := h2; omega
        have e0 := HX.out.cell' d0 hgS
        have e1 := HX.out.cell' d1 hgS
        have hmem : xs.getD i default ∈ xs := by
          rw [List.getD_eq_getElem?_getD, List.getElem?_eq_getElem (by rw [HRX2.out.1]; exact h8)]; exact List.getElem_mem _
        have HXI := Lib.hid (HXO2.out _ hmem)
        have HTS : Hid (xs.take (i + 1) = xs.take i ++ [xs.getD i default]) := Lib.hid (by rw [List.take_add_one, List.getElem?_eq_getElem (by rw [HRX2.out.1]; exact h8), List.getD_eq_getElem?_getD, List.getElem?_eq_getElem (by rw [HRX2.out.1]; exact h8)]; rfl)
        obtain ⟨xx, hxx⟩ : ∃ x, xs.getD i default = x := ⟨_, rfl⟩
        rw [hxx] at e1 HXI HTS
        obtain ⟨xb, xc, xn, xa⟩ := xx
        dsimp only at e1
        obtain ⟨w3, hw3⟩ : ∃ y, y = wx.alloc (.cells #[.int .i64 5, .slice (some ⟨xb, 0, none⟩) 2 xc] 68) := ⟨_, rfl⟩
        obtain ⟨g3, hg3'⟩ : ∃ y, y = wx.heap.size := ⟨_, rfl⟩
        have ho3 : Only (fun _ => False) wx w3 := by rw [hw3]; exact (Only.refl _ _).alloc _
        have HX3 : Hid (Only S w2 w3) := Lib.hid (HX.out.trans (ho3.mono (fun _ _ f => f.elim)))
        have HP3 := Lib.hid (HP.out.quiet ho3)
        have HGX : Hid (wx.heap.size ≤ g3) := Lib.hid (by omega)
        have HSL : Hid (∀ w', Only (fun _ => False) w3 w' → w'.cell? ⟨p, 1, none⟩ = some (.pointer (some ⟨pj, 0, none⟩)) ∧ w'.cell? ⟨g3, 0, none⟩ = some (.int .i64 5) ∧ w'.cell? ⟨g3, 1, none⟩ = some (.slice (some ⟨xb, 0, none⟩) 2 xc)) := Lib.hid (fun w' ho => ⟨ho.cell' HP3.out.c1 (fun f => f), ho.cell' (by rw [hw3]; exact tre.alloc_cell hg3' rfl) (fun f => f), ho.cell' (by rw [hw3]; exact tre.alloc_cell hg3' rfl) (fun f => f)⟩)
        have hbS : ¬ S xb := fun s => by have h1 := HPV.out.lt xb s; have h2 := HXI.out.1; have h2 : w.heap.size ≤ xb := h2; omega
        have HLG := Lib.hid (HXI.out.2.2.1.only HX3.out (fun y e => by injection e with e; rw [← e]; exact hbS))
        have hbS' : ¬ S' xb := fun s => by
          rcases (HSS.out xb s).1 with h1 | h1
          · exact hbS h1
          · have := HXI.out.2.1; have h2 : xb < w2.heap.size := this; omega
        have hxl2 : (L ++ ys).length < 16384 := by
          have h1 := congrArg List.length HYS.out
          rw [List.length_map, List.length_map, List.length_take] at h1
          have h2 := HPV.out.ln
          rw [List.length_append]
          omega
        have HBD : Hid (jnw.Bnd (jnw.addC C op (flatX (xs.take i))) (9007199254740992 * (n : Int) + 9007199254740992)) := Lib.hid (bnd_add HPV.out.bd (by omega) hop32 (flatX_nodup _ ((xs_nodup HXS.out).sublist (List.Sublist.map _ (List.take_sublist i xs)))) (flatX_amt (fun x hx => (HXO2.out x (List.mem_of_mem_take hx)).2.2.2.2)))
        have HCK : Hid (entm.chk 5 (exL xn xa) = 0) := Lib.hid (ex_good HXI.out.2.2.2.1 HXI.out.2.2.2.2)
        have HER : Hid (jnw.pErr (jnw.addC C op (flatX (xs.take i))) 5 (exL xn xa) = 0) := Lib.hid (HBD.out.none (by omega) HCK.out)
        obtain ⟨v, mm, nn, hj⟩ := HP3.out.jn
        have HPO : Hid (∀ w', Only (fun _ => False) w3 w' → Calls Try.prog 31 #[.pointer (some ⟨pj, 0, none⟩), .agg #[.int .i64 5, .slice (some ⟨xb, 0, none⟩) 2 xc]] w' fun e w1 => e = .returned (.tuple #[.int .i64 ((L ++ ys).length : Int), .int .i64 0]) ∧ (∃ v' m' nn' g cp, jnw.JnAt (fun q => (S' q ∧ q ≠ p ∧ q ≠ pb) ∨ w'.heap.size ≤ q) w1 pj v' op m' nn' (jnw.addC (jnw.addC C op (flatX (xs.take i))) op (exL xn xa)) ((L ++ ys) ++ [⟨5, g, 2, cp, op, exL xn xa⟩])) ∧ Only (fun q => S' q ∧ q ≠ p ∧ q ≠ pb) w' w1) := Lib.hid (fun w' ho => (jnw.post_any pj op v mm nn _ (L ++ ys) 5 (some ⟨xb, 0, none⟩) 2 xc (exL xn xa) w' (hj.quiet ho) (HLG.out.only ho (fun _ _ f => f)) hxl2 (fun y e s => by injection e with e; rw [← e] at s; exact hbS' s.1)).mono (fun e w1 hp => by
          rcases hp with ⟨hne, _⟩ | ⟨_, _, h1, h2, h3⟩
          · exact absurd HER.out hne
          · exact ⟨h1, h2, h3⟩))
        clear d0 d1 hcell hmem hxx ho3 HX hgS hbS hbS' hj HP HBD HCK HER
        go_upto_region 10 with fail
        simp only [← hw3, ← hg3']
        clear hw3 hg3' e0 e1
        refine wp_region_noPanic ?_
        refine late.region (fun w' => w'.cell? ⟨p, 1, none⟩ = some (.pointer (some ⟨pj, 0, none⟩)) ∧ w'.cell? ⟨g3, 0, none⟩ = some (.int .i64 5) ∧ w'.cell? ⟨g3, 1, none⟩ = some (.slice (some ⟨xb, 0, none⟩) 2 xc)) (fun j => [].contains j) (by kernel_rfl) (HSL.out _ (Only.refl _ _).drew) (fun hHeld => ?_)
        obtain ⟨z0, hz0'⟩ : ∃ x, x = w3.drew := ⟨_, rfl⟩
        rw [← hz0'] at hHeld ⊢
        have hot : Hid (Only (fun _ => False) w3 z0) := Lib.hid (by rw [hz0']; exact (Only.refl _ _).drew)
        clear hz0'
        refine late.take (i := 0) [1, 2, 3, 5] (v := ?_) rfl (by kernel_rfl) (by kernel_rfl) (by kernel_rfl) (by kernel_rfl) (fun _ _ _ h => h) (Or.inl ⟨by rfl, ?_⟩) (by assumption) ?_
        rotate_left 1
        · intro w' hSw
          try dsimp only at hSw
          go_simp
          try with_reducible rfl
        try simp only [List.getElem_toArray, List.getElem_cons_zero, Act.put, List.setIfInBounds_toArray, List.set_cons_zero, List.set_cons_succ]
        refine late.take (i := 1) [2, 3, 5] (v := ?_) rfl (by kernel_rfl) (by kernel_rfl) (by kernel_rfl) (by kernel_rfl) (fun _ _ _ h => h) (Or.inl ⟨by rfl, ?_⟩) (by assumption) ?_
        rotate_left 1
        · intro w' hSw
          try dsimp only at hSw
          go_simp
          try with_reducible rfl
        try simp only [List.getElem_toArray, List.getElem_cons_zero, List.getElem_cons_succ, Act.put, List.setIfInBounds_toArray, List.set_cons_zero, List.set_cons_succ]
        refine late.take (i := 2) [3, 5] (v := ?_) rfl (by kernel_rfl) (by kernel_rfl) (by kernel_rfl) (by kernel_rfl) (fun _ _ _ h => h) (Or.inl ⟨by rfl, ?_⟩) (by assumption) ?_
        rotate_left 1
        · intro w' hSw
          try dsimp only at hSw
          go_simp
          try with_reducible rfl
        try simp only [List.getElem_toArray, List.getElem_cons_zero, List.getElem_cons_succ, Act.put, List.setIfInBounds_toArray, List.set_cons_zero, List.set_cons_succ]
        refine late.take (i := 3) [5] (v := ?_) rfl (by kernel_rfl) (by kernel_rfl) (by kernel_rfl) (by kernel_rfl) (fun _ _ _ h => h) (Or.inl ⟨by rfl, ?_⟩) (by assumption) ?_
        rotate_left 1
        · intro w' hSw
          try dsimp only at hSw
          go_simp
          try with_reducible rfl
        try simp only [List.getElem_toArray, List.getElem_cons_zero, List.getElem_cons_succ, Act.put, List.setIfInBounds_toArray, List.set_cons_zero, List.set_cons_succ]
        refine late.take (i := 4) [5] (v := ?_) rfl (by kernel_rfl) (by kernel_rfl) (by kernel_rfl) (by kernel_rfl) (fun _ _ _ h => h) (Or.inl ⟨by rfl, ?_⟩) (by assumption) ?_
        rotate_left 1
        · intro w' hSw
          try dsimp only at hSw
          go_simp
          try with_reducible rfl
        try simp only [List.getElem_toArray, List.getElem_cons_zero, List.getElem_cons_succ, Act.put, List.setIfInBounds_toArray, List.set_cons_zero, List.set_cons_succ]
        refine late.ready (rs := [5]) (by kernel_rfl) (by simp) ?_
        refine late.Each.cons rfl (fun K hK => ?_) late.Each.nil
        try simp only [List.getElem_toArray, List.getElem_cons_zero, List.getElem_cons_succ]
        go_simp
        go_at_call 31
        with_reducible refine (HPO.out _ hot.out).mono ?_
        rintro _ z1 ⟨rfl, ⟨v', m', nn', g', cp', hj'⟩, ho⟩
        have HPN : Hid (∃ y : jnw.Ps, y.ls = exL xn xa ∧ Pu (fun q => (S' q ∨ z0.heap.size ≤ q) ∧ q < z1.heap.size) z1 p pb pj A op (jnw.addC C op (flatX (xs.take (i + 1)))) (L ++ (ys ++ [y]))) := Lib.hid ⟨_, rfl, by
          have h9 := (HP3.out.quiet hot.out).jour ⟨v', m', nn', hj'⟩ ho
          rw [HTS.out, flatX_snoc, addC_app, ← List.append_assoc]
          exact h9.mono (fun q hq s => ⟨s, hq⟩)⟩
        have HXN : Hid (Only S w2 z1) := Lib.hid ((HX3.out.trans (hot.out.mono (fun _ _ f => f.elim))).then ho (fun q hq s => by
          rcases (HSS.out q s.1).1 with h3 | h3
          · exact h3
          · omega))
        have HSN : Hid (∀ q, ((S' q ∨ z0.heap.size ≤ q) ∧ q < z1.heap.size) → (S q ∨ w2.heap.size ≤ q) ∧ q < z1.heap.size) := Lib.hid (fun q hq => ⟨by
          rcases hq.1 with h3 | h3
          · exact (HSS.out q h3).1
          · right; have h4 := HX3.out.size; have h5 := hot.out.size; omega, hq.2⟩)
        have HSZ : Hid (z1.cell? ⟨p, 1, none⟩ = some (.pointer (some ⟨pj, 0, none⟩)) ∧ z1.cell? ⟨g3, 0, none⟩ = some (.int .i64 5) ∧ z1.cell? ⟨g3, 1, none⟩ = some (.slice (some ⟨xb, 0, none⟩) 2 xc)) := Lib.hid (by
          obtain ⟨k1, k2, k3⟩ := HSL.out _ hot.out
          have hqn : ¬ (S' g3 ∧ g3 ≠ p ∧ g3 ≠ pb) := fun s => by have h1 := (HSS.out _ s.1).2; have h2 := HGX.out; omega
          exact ⟨ho.cell' k1 (fun s => s.2.1 rfl), ho.cell' k2 hqn, ho.cell' k3 hqn⟩)
        clear hj' ho hot HPO
        try dsimp only
        refine hK.out _ _ (fun _ => HSZ.out) (fun hHeld1 => ?_)
        replace hHeld1 := hHeld1 rfl
        clear hK K
        try simp only [List.getElem_toArray, List.getElem_cons_zero, List.getElem_cons_succ, Act.put, List.setIfInBounds_toArray, List.set_cons_zero, List.set_cons_succ]
        refine late.done (by kernel_rfl) ?_ _
        refine NoPanic.normal ?_
        clear hHeld HSZ
        obtain ⟨yy, hyl, hyp⟩ := HPN.out
        have HPY := Lib.hid hyp
        have HYY : Hid ((ys ++ [yy]).map (·.ls) = (xs.take (i + 1)).map (fun x => exL x.n x.av)) := Lib.hid (by rw [HTS.out, List.map_append, List.map_append, HYS.out]; simp [hyl])
        clear hyl hyp HPN HSL HYS HP3 HX3 HLG HTS HXI
        go_wp2_with fail
        go_roundw
        case rel => exact ⟨i + 1, _, _, by omega, by go_num, HPY, HYY, HSN, HXN⟩
        case measure => (simp [intOf]; omega)
      · have hin : ¬ (i : Int) < (lx : Int) := by omega
        obtain rfl : lx = i := by omega
        have HPX : Hid (Pu S' wx p pb pj A op (jnw.addC C op (flatX xs)) (L ++ ys)) := Lib.hid (by have h9 := HP.out; rw [List.take_of_length_le (by rw [HRX2.out.1]; exact Nat.le_refl _)] at h9; exact h9)
        have HYX : Hid (ys.map (·.ls) = xs.map (fun x => exL x.n x.av)) := Lib.hid (by have h9 := HYS.out; rw [List.take_of_length_le (by rw [HRX2.out.1]; exact Nat.le_refl _)] at h9; exact h9)
        have c0 := HPX.out.c0
        have HND := Lib.hid (fnd.nodes_any pb A wx HPX.out.bk HPX.out.bok)
        clear HP HYS
        go_wp2_with fail
        refine HND.out.mono ?_
        rintro _ w4 ⟨⟨_, rfl, an, cn, rfl, hrn, han⟩, ho4⟩
        have HO4 := Lib.hid ho4
        have HRN := Lib.hid hrn
        have HAN := Lib.hid han
        have HP4 := Lib.hid (HPX.out.quiet ho4)
        have HNI := Lib.hid (nodU_ok HPV.out.pu.bok)
        obtain ⟨ns, hns⟩ : ∃ x, fnd.nodU A 33 = x := ⟨_, rfl⟩
        have HNS := Lib.hid hns
        rw [hns] at HRN HNI
        rw [hns]
        obtain ⟨nn, hnn⟩ : ∃ x, ns.length = x := ⟨_, rfl⟩
        have HNN := Lib.hid hnn
        have hn33 : nn ≤ 33 := by rw [← hnn, ← hns]; exact fnd.nodU_len A 33
        rw [hnn] at HRN
        try rw [hnn]
        clear ho4 hrn han HND HPX hns hnn c0
        go_wp2_with fail
        go_loopw [10, 47] (fun ev kv wy => ∃ (k : Nat) (s : Int), k ≤ nn ∧ kv = .int .i64 (k : Int) ∧ ev = .int .i64 s ∧ Hid (s = (rollF carry (A, 0) (ns.take k)).2) ∧ (0 ≤ s ∧ s ≤ 9007199254740992 * (k : Int)) ∧ Hid (Pu S' wy p pb pj (rollF carry (A, 0) (ns.take k)).1 op (jnw.addC C op (flatX xs)) (L ++ ys)) ∧ Hid (Only (fun q => q = pb) w4 wy)) (fun _ kv _ => nn - (intOf kv).toNat)
        case atStart => exact ⟨0, 0, by omega, rfl, rfl, Lib.hid rfl, by omega, HP4, Lib.hid (Only.refl _ _)⟩
        case round =>
          clear HP4
          obtain ⟨k, s, hk, rfl, rfl, hs, hsb, HPK, HXK⟩ := hrel
          rename World => wy
          by_cases h9 : k < nn
          · have hkn : (k : Int) < (nn : Int) := by omega
            have hk0 : (0 : Int) ≤ (k : Int) := by omega
            obtain ⟨b, off, rfl, hcell⟩ := HRN.out.2.2.2.resolve_left (by omega)
            have hbp : ¬ b = pb := fun e => by have h1 := HPV.out.pu.lt.2; have h2 := HAN.out _ rfl; have h2 : wx.heap.size ≤ b := h2; have h3 := HX.out.size; have h4 := HO2.out.size; omega
            have hck := HXK.out.cell' (hcell k h9) hbp
            have hks := take_snocI ns k (by rw [HNN.out]; exact h9)
            have hfs := rollF_snoc carry (A, 0) (ns.take k) (ns.getD k 0)
            rw [← hks] at hfs
            have hnd := HNI.out (ns.getD k 0) (by rw [List.getD_eq_getElem?_getD, List.getElem?_eq_getElem (by rw [HNN.out]; exact h9)]; exact List.getElem_mem _)
            obtain ⟨nk, hnk⟩ : ∃ x, ns.getD k 0 = x := ⟨_, rfl⟩
            rw [hnk] at hck hfs hnd
            obtain ⟨Ak, hAk⟩ : ∃ x, (rollF carry (A, 0) (ns.take k)).1 = x := ⟨_, rfl⟩
            rw [hAk] at HPK hfs
            have hgi := rollN_in HPK.out.bok nk (carry.contains nk)
            have hre : fnd.rollE nk = 0 := by unfold fnd.rollE; rw [if_pos hnd]
            have HRL : Hid (∀ w', Only (fun _ => False) wy w' → Calls Try.prog 33 #[.pointer (some ⟨pb, 0, none⟩), .int .i64 nk, .bool (carry.contains nk)] w' (fnd.RollDid pb (fnd.rollA Ak nk (carry.contains nk)) (fnd.rollN Ak nk (carry.contains nk)) 0 w')) := Lib.hid (fun w' ho => by
              rw [← hre]
              exact fnd.roll_any pb Ak nk (carry.contains nk) w' (HPK.out.bk.only ho (fun f => f)) HPK.out.bok)
            have HCT : Hid (∀ w', Only (fun _ => False) wy w' → Calls Try.prog 34 #[.slice a ln cap, .int .i64 nk] w' fun e w2 => e = .returned (.bool (carry.contains nk)) ∧ w' = w2) := Lib.hid (fun w' ho => by
              rw [← HLN.out]
              refine tre.contains_any a cap carry nk w' ?_
              have r1 := (HR.out.only HO2.out (fun _ _ f => f)).only HX.out ha
              have r2 := (r1.only HO4.out (fun _ _ f => f)).only HXK.out (fun y e e2 => ha y e (by rw [e2]; exact HPV.out.pu.sb))
              exact r2.only ho (fun _ _ f => f))
            have HBK : Hid (fnd.Bok (fnd.rollA Ak nk (carry.contains nk))) := Lib.hid (HPK.out.bok.rollA nk _)
            obtain ⟨gn, hgn⟩ : ∃ x, fnd.rollN Ak nk (carry.contains nk) = x := ⟨_, rfl⟩
            obtain ⟨AN, hAN⟩ : ∃ x, fnd.rollA Ak nk (carry.contains nk) = x := ⟨_, rfl⟩
            obtain ⟨ct, hct⟩ : ∃ x, carry.contains nk = x := ⟨_, rfl⟩
            rw [hgn, hAN, hct] at HRL
            rw [hct] at HCT
            rw [hAN] at HBK
            rw [hgn] at hgi
            have HFS : Hid (rollF carry (A, 0) (ns.take (k + 1)) = (AN, s + gn)) := Lib.hid (by rw [hfs, hAN, hgn, hs.out])
            have hws : wrap64 (s + gn) = s + gn := by unfold wrap64; omega
            have HSL : Hid (∀ w', Only (fun _ => False) wy w' → w'.cell? ⟨p, 0, none⟩ = some (.pointer (some ⟨pb, 0, none⟩))) := Lib.hid (fun w' ho => ho.cell' HPK.out.c0 (fun f => f))
            clear hbp hks hfs hnd hnk hAk hre hgn hAN hct hcell
            go_upto_region 16 with fail
            clear hck
            refine wp_region_noPanic ?_
            refine late.region (fun w' => w'.cell? ⟨p, 0, none⟩ = some (.pointer (some ⟨pb, 0, none⟩))) (fun j => [].contains j) (by kernel_rfl) (HSL.out _ (Only.refl _ _).drew) (fun hHeld => ?_)
            obtain ⟨z0, hz0'⟩ : ∃ x, x = wy.drew := ⟨_, rfl⟩
            rw [← hz0'] at hHeld ⊢
            have hot : Hid (Only (fun _ => False) wy z0) := Lib.hid (by rw [hz0']; exact (Only.refl _ _).drew)
            clear hz0'
            refine late.take (i := 0) [1, 2, 3, 8, 9, 10, 11, 12, 13] (v := ?_) rfl (by kernel_rfl) (by kernel_rfl) (by kernel_rfl) (by kernel_rfl) (fun _ _ _ h => h) (Or.inl ⟨by rfl, ?_⟩) (by assumption) ?_
            rotate_left 1
            · intro w' hSw
              try dsimp only at hSw
              go_simp
              try with_reducible rfl
            try simp only [List.getElem_toArray, List.getElem_cons_zero, Act.put, List.setIfInBounds_toArray, List.set_cons_zero, List.set_cons_succ]
            refine late.take (i := 1) [2, 3, 8, 9, 10, 11, 12, 13] (v := ?_) rfl (by kernel_rfl) (by kernel_rfl) (by kernel_rfl) (by kernel_rfl) (fun _ _ _ h => h) (Or.inl ⟨by rfl, ?_⟩) (by assumption) ?_
            rotate_left 1
            · intro w' hSw
              try dsimp only at hSw
              go_simp
              try with_reducible rfl
            try simp only [List.getElem_toArray, List.getElem_cons_zero, List.getElem_cons_succ, Act.put, List.setIfInBounds_toArray, List.set_cons_zero, List.set_cons_succ]
            refine late.take (i := 2) [3, 8, 9, 10, 11, 12, 13] (v := ?_) rfl (by kernel_rfl) (by kernel_rfl) (by kernel_rfl) (by kernel_rfl) (fun _ _ _ h => h) (Or.inl ⟨by rfl, ?_⟩) (by assumption) ?_
            rotate_left 1
            · intro w' hSw
              try dsimp only at hSw
              go_simp
              try with_reducible rfl
            try simp only [List.getElem_toArray, List.getElem_cons_zero, List.getElem_cons_succ, Act.put, List.setIfInBounds_toArray, List.set_cons_zero, List.set_cons_succ]
            refine late.take (i := 3) [8, 9, 10, 11, 12, 13] (v := ?_) rfl (by kernel_rfl) (by kernel_rfl) (by kernel_rfl) (by kernel_rfl) (fun _ _ _ h => h) (Or.inl ⟨by rfl, ?_⟩) (by assumption) ?_
            rotate_left 1
            · intro w' hSw
              try dsimp only at hSw
              go_simp
              try with_reducible rfl
            try simp only [List.getElem_toArray, List.getElem_cons_zero, List.getElem_cons_succ, Act.put, List.setIfInBounds_toArray, List.set_cons_zero, List.set_cons_succ]
            refine late.take (i := 4) [8, 9, 10, 11, 12, 13] (v := ?_) rfl (by kernel_rfl) (by kernel_rfl) (by kernel_rfl) (by kernel_rfl) (fun _ _ _ h => h) (Or.inl ⟨by rfl, ?_⟩) (by assumption) ?_
            rotate_left 1
            · intro w' hSw
              try dsimp only at hSw
              go_simp
              try with_reducible rfl
            try simp only [List.getElem_toArray, List.getElem_cons_zero, List.getElem_cons_succ, Act.put, List.setIfInBounds_toArray, List.set_cons_zero, List.set_cons_succ]
            refine late.take (i := 5) [7, 8, 9, 10, 11, 12, 13] (v := ?_) rfl (by kernel_rfl) (by kernel_rfl) (by kernel_rfl) (by kernel_rfl) (fun _ _ _ h => h) (Or.inl ⟨by rfl, ?_⟩) (by assumption) ?_
            rotate_left 1
            · intro w' hSw
              try dsimp only at hSw
              go_simp
              try with_reducible rfl
            try simp only [List.getElem_toArray, List.getElem_cons_zero, List.getElem_cons_succ, Act.put, List.setIfInBounds_toArray, List.set_cons_zero, List.set_cons_succ]
            refine late.take (i := 6) [7, 8, 9, 10, 11, 12, 13] (v := ?_) rfl (by kernel_rfl) (by kernel_rfl) (by kernel_rfl) (by kernel_rfl) (fun _ _ _ h => h) (Or.inl ⟨by rfl, ?_⟩) (by assumption) ?_
            rotate_left 1
            · intro w' hSw
              try dsimp only at hSw
              go_simp
              try with_reducible rfl
            try simp only [List.getElem_toArray, List.getElem_cons_zero, List.getElem_cons_succ, Act.put, List.setIfInBounds_toArray, List.set_cons_zero, List.set_cons_succ]
            refine late.ready (rs := [7]) (by kernel_rfl) (by simp) ?_
            refine late.Each.cons rfl (fun K hK => ?_) late.Each.nil
            try simp only [List.getElem_toArray, List.getElem_cons_zero, List.getElem_cons_succ]
            go_simp
            go_at_call 34
            with_reducible refine (HCT.out _ hot.out).mono ?_
            rintro _ _ ⟨rfl, rfl⟩
            try dsimp only
            refine hK.out _ _ (fun _ => HSL.out _ hot.out) (fun hHeld1 => ?_)
            replace hHeld1 := hHeld1 rfl
            clear hK K
            clear HCT
            try simp only [List.getElem_toArray, List.getElem_cons_zero, List.getElem_cons_succ, Act.put, List.setIfInBounds_toArray, List.set_cons_zero, List.set_cons_succ]
            refine late.ready (rs := [8]) (by kernel_rfl) (by simp) ?_
            refine late.Each.cons rfl (fun K hK => ?_) late.Each.nil
            try simp only [List.getElem_toArray, List.getElem_cons_zero, List.getElem_cons_succ]
            go_simp
            go_at_call 33
            with_reducible refine (HRL.out _ hot.out).mono ?_
            rintro _ z1 ⟨rfl, hb, ho⟩
            have HPN : Hid (Pu S' z1 p pb pj (rollF carry (A, 0) (ns.take (k + 1))).1 op (jnw.addC C op (flatX xs)) (L ++ ys)) := Lib.hid (by rw [HFS.out]; exact (HPK.out.quiet hot.out).book hb HBK.out ho)
            have HXN : Hid (Only (fun q => q = pb) w4 z1) := Lib.hid ((HXK.out.trans (hot.out.mono (fun _ _ f => f.elim))).trans ho)
            have HSZ : Hid (z1.cell? ⟨p, 0, none⟩ = some (.pointer (some ⟨pb, 0, none⟩))) := Lib.hid (ho.cell' (HSL.out _ hot.out) (fun e => HPV.out.pu.ne e))
            clear hb ho hot HRL
            try dsimp only
            refine hK.out _ _ (fun _ => HSZ.out) (fun hHeld2 => ?_)
            replace hHeld2 := hHeld2 rfl
            clear hK K
            try simp only [List.getElem_toArray, List.getElem_cons_zero, List.getElem_cons_succ, Act.put, List.setIfInBounds_toArray, List.set_cons_zero, List.set_cons_succ]
            refine late.take (i := 9) [10, 11, 12, 13] (v := ?_) rfl (by kernel_rfl) (by kernel_rfl) (by kernel_rfl) (by kernel_rfl) (fun _ _ _ h => h) (Or.inl ⟨by rfl, ?_⟩) (by assumption) ?_
            rotate_left 1
            · intro w' hSw
              try dsimp only at hSw
              go_simp
              try with_reducible rfl
            try simp only [List.getElem_toArray, List.getElem_cons_zero, List.getElem_cons_succ, Act.put, List.setIfInBounds_toArray, List.set_cons_zero, List.set_cons_succ]
            refine late.take (i := 10) [12, 13] (v := ?_) rfl (by kernel_rfl) (by kernel_rfl) (by kernel_rfl) (by kernel_rfl) (fun _ _ _ h => h) (Or.inl ⟨by rfl, ?_⟩) (by assumption) ?_
            rotate_left 1
            · intro w' hSw
              try dsimp only at hSw
              go_simp
              try with_reducible rfl
            try simp only [List.getElem_toArray, List.getElem_cons_zero, List.getElem_cons_succ, Act.put, List.setIfInBounds_toArray, List.set_cons_zero, List.set_cons_succ]
            refine late.take (i := 11) [13] (v := ?_) rfl (by kernel_rfl) (by kernel_rfl) (by kernel_rfl) (by kernel_rfl) (fun _ _ _ h => h) (Or.inl ⟨by rfl, ?_⟩) (by assumption) ?_
            rotate_left 1
            · intro w' hSw
              try dsimp only at hSw
              go_simp
              try with_reducible rfl
            try simp only [List.getElem_toArray, List.getElem_cons_zero, List.getElem_cons_succ, Act.put, List.setIfInBounds_toArray, List.set_cons_zero, List.set_cons_succ]
            refine late.take (i := 12) [13] (v := ?_) rfl (by kernel_rfl) (by kernel_rfl) (by kernel_rfl) (by kernel_rfl) (fun _ _ _ h => h) (Or.inl ⟨by rfl, ?_⟩) (by assumption) ?_
            rotate_left 1
            · intro w' hSw
              try dsimp only at hSw
              go_simp
              try with_reducible rfl
            try simp only [List.getElem_toArray, List.getElem_cons_zero, List.getElem_cons_succ, Act.put, List.setIfInBounds_toArray, List.set_cons_zero, List.set_cons_succ]
            refine late.take (i := 13) [] (v := ?_) rfl (by kernel_rfl) (by kernel_rfl) (by kernel_rfl) (by kernel_rfl) (fun _ _ _ h => h) (Or.inl ⟨by rfl, ?_⟩) (by assumption) ?_
            rotate_left 1
            · intro w' hSw
              try dsimp only at hSw
              go_simp
              try with_reducible rfl
            try simp only [List.getElem_toArray, List.getElem_cons_zero, List.getElem_cons_succ, Act.put, List.setIfInBounds_toArray, List.set_cons_zero, List.set_cons_succ]
            refine late.done (by kernel_rfl) ?_ _
            refine NoPanic.normal ?_
            clear hHeld HSZ HSL HPK HXK HBK
            have hsn : s + gn = (rollF carry (A, 0) (ns.take (k + 1))).2 := by rw [HFS.out]
            have HSN := Lib.hid hsn
            clear hs hsn
            go_wp2_with fail
            go_roundw
            case rel => exact ⟨k + 1, s + gn, by omega, by go_num, rfl, HSN, by omega, HPN, HXN⟩
            case measure => (simp [intOf]; omega)
          · have hkn : ¬ (k : Int) < (nn : Int) := by omega
            obtain rfl : nn = k := by omega
            have HFE : Hid (rollF carry (A, 0) (ns.take nn) = rollF carry (A, 0) (fnd.nodU A 33)) := Lib.hid (by rw [HNS.out, List.take_of_length_le (by rw [HNN.out]; exact Nat.le_refl _)])
            rw [HFE.out] at HPK
            have hs2 : Hid (s = (rollF carry (A, 0) (fnd.nodU A 33)).2) := Lib.hid (by rw [hs.out, HFE.out])
            clear hs
            have c1 := HPK.out.c1
            have HCL := Lib.hid (HPK.out.close (by omega))
            go_wp2_with fail
            refine HCL.out.mono ?_
            rintro _ w9 ⟨rfl, hp9, ho9⟩
            have HEND : Hid (RollR S w p pb pj A n op C L carry (.returned (.tuple #[.int .i64 s, .int .i64 0])) w9) := Lib.hid (.inr ⟨by omega, by rw [hs2.out], (by
                have h1 : Only S w wx := (HO2.out.mono (fun _ _ f => f.elim)).trans HX.out
                have h2 : Only S w wy := (h1.trans (HO4.out.mono (fun _ _ f => f.elim))).trans (HXK.out.mono (fun q _ e => by have e : q = pb := e; rw [e]; exact HPV.out.pu.sb))
                exact h2.then ho9 (fun q hq s => by
                  rcases (HSS.out q s).1 with h3 | h3
                  · exact h3
                  · have := HO2.out.size; omega)), fun q => S' q ∧ q < w9.heap.size, xs, ys, fun q hq => by
                  rcases (HSS.out q hq.1).1 with h3 | h3
                  · exact .inl h3
                  · right; have := HO2.out.size; omega, HXS.out, HYX.out, fun x hx => ⟨(HXO2.out x hx).2.2.2.1, (HXO2.out x hx).2.2.2.2⟩, ⟨hp9.mono (fun q hq s => ⟨s, hq⟩), (bnd_add HPV.out.bd (by omega) hop32 (flatX_nodup _ (xs_nodup HXS.out)) (flatX_amt (fun x hx => (HXO2.out x hx).2.2.2.2))).mono (by omega), by
                    have h1 := congrArg List.length HYX.out
                    rw [List.length_map, List.length_map, HRX2.out.1] at h1
                    have h2 := HPV.out.ln
                    rw [List.length_append]
                    omega, fun q hq => hq.2⟩⟩)
            clear hp9 ho9 HCL HPK HXK hs2
            go_wp2_with fail
            go_ret2
            exact HEND.out
end Go.Proofs.Ytkbaafgaaiekpaa.puw

