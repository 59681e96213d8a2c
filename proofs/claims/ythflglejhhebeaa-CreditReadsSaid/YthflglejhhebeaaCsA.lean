/- Sessions with grants in memory: rows of grants, rows of sessions; a table. -/
import Derived.Test.YthflglejhhebeaaRowG
import Derived.Test.YthflglejhhebeaaZ1
import Derived.Test.YthflglejhhebeaaShelf
import Derived.Lib.Hide
import Derived.IntWalk
import Derived.Deep.RegionHeld3
import Derived.Deep.CutRange
import Derived.Deep.CutBlock
import Derived.Lib.SliceRun
namespace Go.Proofs.Ythflglejhhebeaa.cs
open Go.RowKit mem rwg
set_option linter.unusedVariables false

def encG (x : Gr) : List Value := [.int .i64 x.g, .int .i64 x.u, .int .i64 x.a, .bool x.f]
def EG (t : TypeId) : Enc Gr := ⟨t, 4, encG, fun _ => rfl, fun x u hu => by
  simp [encG] at hu
  rcases hu with rfl | rfl | rfl | rfl <;> rfl⟩
/-- a session as it stands in memory -/
structure Sd where
  i : Int
  nd : Int
  num : Int
  dl : Int
  a : Option Addr
  n : Nat
  c : Nat
  gs : List Gr
deriving Inhabited
def Sd.sx (x : Sd) : Sx := ⟨x.i, x.nd, x.num, x.dl, x.gs⟩
def encS (x : Sd) : List Value := [.int .i64 x.i, .int .i64 x.nd, .int .i64 x.num, .int .i64 x.dl, .slice x.a x.n x.c]
def ES (t : TypeId) : Enc Sd := ⟨t, 5, encS, fun _ => rfl, fun x u hu => by
  simp [encS] at hu
  rcases hu with rfl | rfl | rfl | rfl | rfl <;> rfl⟩
/-- grants that are read; of any type of so many cells -/
def ReadsG (w : World) (a : Option Addr) (n : Nat) (gs : List Gr) : Prop := ReadsR (EG 0) w a n gs
theorem ReadsG.of {t : TypeId} {w : World} {a : Option Addr} {n : Nat} {gs : List Gr} (h : ReadsR (EG t) w a n gs) : ReadsG w a n gs := h
theorem ReadsG.to {w : World} {a : Option Addr} {n : Nat} {gs : List Gr} (h : ReadsG w a n gs) (t : TypeId) : ReadsR (EG t) w a n gs := h
theorem ReadsG.only {S : Nat → Prop} {w w' : World} {a : Option Addr} {n : Nat} {gs : List Gr} (h : ReadsG w a n gs) (ho : Only S w w') (hs : ∀ x, a = some x → ¬ S x.block) : ReadsG w' a n gs := ReadsR.only h ho hs
theorem ReadsG.only' {S : Nat → Prop} {w w' : World} {a : Option Addr} {n : Nat} {gs : List Gr} (h : ReadsG w a n gs) (ho : Only S w w') (hs : ∀ x, a = some x → 0 < n → ¬ S x.block) : ReadsG w' a n gs := by
  rcases Nat.eq_zero_or_pos n with e | e
  · exact ⟨h.1, .inl e⟩
  · exact h.only ho (fun x hx => hs x hx e)
theorem ReadsG.quiet {w w' : World} {a : Option Addr} {n : Nat} {gs : List Gr} (h : ReadsG w a n gs) (ho : Only (fun _ => False) w w') : ReadsG w' a n gs := h.only ho (fun _ _ f => f)
def GCells (w : World) (b off n : Nat) (gs : List Gr) : Prop := ∀ k, k < n → w.cell? ⟨b, off + k * 4, none⟩ = some (.int .i64 (gs.getD k default).g) ∧ w.cell? ⟨b, off + k * 4 + 1, none⟩ = some (.int .i64 (gs.getD k default).u) ∧ w.cell? ⟨b, off + k * 4 + 2, none⟩ = some (.int .i64 (gs.getD k default).a) ∧ w.cell? ⟨b, off + k * 4 + 3, none⟩ = some (.bool (gs.getD k default).f)
theorem ReadsG.cells {w : World} {a : Option Addr} {n : Nat} {gs : List Gr} (h : ReadsG w a n gs) (hn : 0 < n) : ∃ b off, a = some ⟨b, off, none⟩ ∧ GCells w b off n gs := by
  obtain ⟨hl, hc⟩ := h
  obtain ⟨b, off, e, hc⟩ := hc.resolve_left (by omega)
  exact ⟨b, off, e, fun k hk => ⟨hc k (by omega) 0 _ rfl, hc k (by omega) 1 _ rfl, hc k (by omega) 2 _ rfl, hc k (by omega) 3 _ rfl⟩⟩
theorem ReadsG.mk {w : World} {b off n : Nat} {gs : List Gr} (hl : gs.length = n) (h : GCells w b off n gs) : ReadsG w (some ⟨b, off, none⟩) n gs := by
  refine ⟨hl, .inr ⟨b, off, rfl, fun k hk c v hv => ?_⟩⟩
  obtain ⟨h0, h1, h2, h3⟩ := h k (by omega)
  have hc : c < 4 := enc_lt (EG 0) hv
  rcases (by omega : c = 0 ∨ c = 1 ∨ c = 2 ∨ c = 3) with rfl | rfl | rfl | rfl
  all_goals (have e := Option.some.inj hv; subst e; assumption)
theorem GCells.only {S : Nat → Prop} {w w' : World} {b off n : Nat} {gs : List Gr} (h : GCells w b off n gs) (ho : Only S w w') (hs : ¬ S b) : GCells w' b off n gs := fun k hk => by
  obtain ⟨h0, h1, h2, h3⟩ := h k hk
  exact ⟨ho.cell' h0 hs, ho.cell' h1 hs, ho.cell' h2 hs, ho.cell' h3 hs⟩
def SCells (w : World) (b n : Nat) (l : List Sd) : Prop := ∀ k, k < n → w.cell? ⟨b, k * 5, none⟩ = some (.int .i64 (l.getD k default).i) ∧ w.cell? ⟨b, k * 5 + 1, none⟩ = some (.int .i64 (l.getD k default).nd) ∧ w.cell? ⟨b, k * 5 + 2, none⟩ = some (.int .i64 (l.getD k default).num) ∧ w.cell? ⟨b, k * 5 + 3, none⟩ = some (.int .i64 (l.getD k default).dl) ∧ w.cell? ⟨b, k * 5 + 4, none⟩ = some (.slice (l.getD k default).a (l.getD k default).n (l.getD k default).c)
theorem SCells.only {S : Nat → Prop} {w w' : World} {b n : Nat} {l : List Sd} (h : SCells w b n l) (ho : Only S w w') (hs : ¬ S b) : SCells w' b n l := fun k hk => by
  obtain ⟨h0, h1, h2, h3, h4⟩ := h k hk
  exact ⟨ho.cell' h0 hs, ho.cell' h1 hs, ho.cell' h2 hs, ho.cell' h3 hs, ho.cell' h4 hs⟩
/-- a row of sessions of a table: nil, or at the begin of a block -/
theorem own_S {t : TypeId} {w : World} {v : Value} {l : List Sd} (h : OwnR (ES t) w v l) : ∃ a cap, v = .slice a l.length cap ∧ l.length ≤ cap ∧ cap ≤ maxLen ∧ (a = none → cap = 0 ∧ l = []) ∧ (l.length = 0 ∨ ∃ g, a = some ⟨g, 0, none⟩ ∧ SCells w g l.length l) ∧ (∀ y, a = some y → v.ownBlock = some y.block ∧ y.off = 0) := by
  rcases h.form with ⟨rfl, rfl⟩ | ⟨g, cap, rfl, hg, hc, hm, hk⟩
  · exact ⟨none, 0, rfl, Nat.le_refl _, Nat.zero_le _, fun _ => ⟨rfl, rfl⟩, .inl rfl, fun y e => (by cases e)⟩
  · refine ⟨_, cap, rfl, hc, hm, fun e => (by cases e), .inr ⟨g, rfl, fun k hk' => ?_⟩, fun y e => (by cases e; exact ⟨rfl, rfl⟩)⟩
    have e : ∀ c v, (encS (l.getD k default))[c]? = some v → w.cell? ⟨g, k * 5 + c, none⟩ = some v := fun c v hv => by
      have := hk k hk' c v hv
      rw [Nat.zero_add] at this
      exact this
    exact ⟨e 0 _ rfl, e 1 _ rfl, e 2 _ rfl, e 3 _ rfl, e 4 _ rfl⟩
/-- a slice's capacity -/
def Cp (a : Option Addr) (n c : Nat) : Prop := n ≤ c ∧ c ≤ maxLen ∧ (a = none → c = 0)
/-- a session's grants, in a block that is none of the table's two -/
def GrIn (S : Nat → Prop) (w : World) (p : Nat) (v : Value) (x : Sd) : Prop := ReadsG w x.a x.n x.gs ∧ Cp x.a x.n x.c ∧ ∀ y, x.a = some y → 0 < x.n → y.block < w.heap.size ∧ S y.block ∧ y.block ≠ p ∧ v.ownBlock ≠ some y.block
theorem GrIn.only {S T : Nat → Prop} {w w' : World} {p : Nat} {v : Value} {x : Sd} (h : GrIn S w p v x) (ho : Only T w w') (hT : ∀ q, S q → ¬ T q) : GrIn S w' p v x :=
  ⟨h.1.only' ho (fun y e hn => hT _ (h.2.2 y e hn).2.1), h.2.1, fun y e hn => by obtain ⟨h1, h2, h3⟩ := h.2.2 y e hn; exact ⟨by have := ho.size; omega, h2, h3⟩⟩
theorem GrIn.mono {S T : Nat → Prop} {w : World} {p : Nat} {v : Value} {x : Sd} (h : GrIn S w p v x) (hT : ∀ q, q < w.heap.size → S q → T q) : GrIn T w p v x :=
  ⟨h.1, h.2.1, fun y e hn => by obtain ⟨h1, h2, h3⟩ := h.2.2 y e hn; exact ⟨h1, hT _ h1 h2, h3⟩⟩
theorem GrIn.move {S S' T : Nat → Prop} {w w' : World} {p : Nat} {v v' : Value} {x : Sd} (h : GrIn S w p v x) (ho : Only T w w') (hT : ∀ y, x.a = some y → 0 < x.n → ¬ T y.block) (hv : ∀ y, x.a = some y → 0 < x.n → v'.ownBlock ≠ some y.block) (hS : ∀ q, S q → S' q) : GrIn S' w' p v' x :=
  ⟨h.1.only' ho hT, h.2.1, fun y e hn => by obtain ⟨h1, h2, h3, _⟩ := h.2.2 y e hn; exact ⟨by have := ho.size; omega, hS _ h2, h3, hv y e hn⟩⟩
/-- a table in memory, all of whose blocks are of S -/
structure CtAt (N : Bool) (t : TypeId) (S : Nat → Prop) (w : World) (p : Nat) (pl last : Int) (v : Value) (L : List Sd) : Prop where
  c0 : w.cell? ⟨p, 0, none⟩ = some (.int .i64 pl)
  c1 : w.cell? ⟨p, 1, none⟩ = some (.int .i64 last)
  c2 : w.cell? ⟨p, 2, none⟩ = some v
  f1 : w.frozen? ⟨p, 1, none⟩ = false
  f2 : w.frozen? ⟨p, 2, none⟩ = false
  own : OwnR (ES t) w v L
  np : v.ownBlock ≠ some p
  len : L.length ≤ 16
  sp : S p
  sv : ∀ q, v.ownBlock = some q → S q
  kd : ∀ x ∈ L, GrIn S w p v x
  nz : N = true → ∀ x ∈ L, x.n = 0 → x.a = none ∧ x.c = 0
theorem CtAt.lt {N : Bool} {t : TypeId} {S : Nat → Prop} {w : World} {p : Nat} {pl last : Int} {v : Value} {L : List Sd} (h : CtAt N t S w p pl last v L) : p < w.heap.size := World.block_lt_of_cell? w _ h.c0
theorem CtAt.only {N : Bool} {t : TypeId} {S T : Nat → Prop} {w w' : World} {p : Nat} {pl last : Int} {v : Value} {L : List Sd} (h : CtAt N t S w p pl last v L) (ho : Only T w w') (hT : ∀ q, S q → ¬ T q) : CtAt N t S w' p pl last v L :=
  ⟨ho.cell' h.c0 (hT _ h.sp), ho.cell' h.c1 (hT _ h.sp), ho.cell' h.c2 (hT _ h.sp), (ho.frozen (p := ⟨p, 1, none⟩) h.lt (hT _ h.sp)).trans h.f1, (ho.frozen (p := ⟨p, 2, none⟩) h.lt (hT _ h.sp)).trans h.f2, h.own.only ho (fun k e => hT _ (h.sv k e)), h.np, h.len, h.sp, h.sv, fun x hx => (h.kd x hx).only ho hT, h.nz⟩
theorem CtAt.quiet {N : Bool} {t : TypeId} {S : Nat → Prop} {w w' : World} {p : Nat} {pl last : Int} {v : Value} {L : List Sd} (h : CtAt N t S w p pl last v L) (ho : Only (fun _ => False) w w') : CtAt N t S w' p pl last v L := h.only ho (fun _ _ f => f)
theorem CtAt.mono {N : Bool} {t : TypeId} {S T : Nat → Prop} {w : World} {p : Nat} {pl last : Int} {v : Value} {L : List Sd} (h : CtAt N t S w p pl last v L) (hT : ∀ q, q < w.heap.size → S q → T q) : CtAt N t T w p pl last v L :=
  ⟨h.c0, h.c1, h.c2, h.f1, h.f2, h.own, h.np, h.len, hT _ h.lt h.sp, fun q e => hT _ (h.own.lt e) (h.sv q e), fun x hx => (h.kd x hx).mono hT, h.nz⟩
theorem sx_get (L : List Sd) {k : Nat} (h : k < L.length) : (L.map Sd.sx).getD k default = (L.getD k default).sx := by
  simp [List.getD, h]
/-- the program's, and the document's -/
abbrev PT := CtAt true 25
abbrev DT := CtAt false 50
/-- a block of a session's five cells -/
theorem sbox {w : World} {x0 x1 x2 x3 x4 : Value} {t : TypeId} {w1 : World} {g : Nat} (hw : w1 = w.alloc (.cells #[x0, x1, x2, x3, x4] t)) (hg : g = w.heap.size) : w1.cell? ⟨g, 0, none⟩ = some x0 ∧ w1.cell? ⟨g, 1, none⟩ = some x1 ∧ w1.cell? ⟨g, 2, none⟩ = some x2 ∧ w1.cell? ⟨g, 3, none⟩ = some x3 ∧ w1.cell? ⟨g, 4, none⟩ = some x4 ∧ Only (fun _ => False) w w1 := by
  subst hw hg
  have h : ∀ k u, (#[x0, x1, x2, x3, x4] : Array Value)[k]? = some u → (w.alloc (.cells #[x0, x1, x2, x3, x4] t)).cell? ⟨w.heap.size, k, none⟩ = some u := fun k u hu => by
    rw [Go.Joins.cell_of_block (cs := #[x0, x1, x2, x3, x4]) (t := t) (fr := (0, 0)) (by rw [heap_alloc, if_pos rfl])]; exact hu
  exact ⟨h 0 _ rfl, h 1 _ rfl, h 2 _ rfl, h 3 _ rfl, h 4 _ rfl, (Only.refl _ w).alloc _⟩
theorem gbox {w : World} {x0 x1 x2 x3 : Value} {t : TypeId} {w1 : World} {g : Nat} (hw : w1 = w.alloc (.cells #[x0, x1, x2, x3] t)) (hg : g = w.heap.size) : w1.cell? ⟨g, 0, none⟩ = some x0 ∧ w1.cell? ⟨g, 1, none⟩ = some x1 ∧ w1.cell? ⟨g, 2, none⟩ = some x2 ∧ w1.cell? ⟨g, 3, none⟩ = some x3 ∧ Only (fun _ => False) w w1 := by
  subst hw hg
  have h : ∀ k u, (#[x0, x1, x2, x3] : Array Value)[k]? = some u → (w.alloc (.cells #[x0, x1, x2, x3] t)).cell? ⟨w.heap.size, k, none⟩ = some u := fun k u hu => by
    rw [Go.Joins.cell_of_block (cs := #[x0, x1, x2, x3]) (t := t) (fr := (0, 0)) (by rw [heap_alloc, if_pos rfl])]; exact hu
  exact ⟨h 0 _ rfl, h 1 _ rfl, h 2 _ rfl, h 3 _ rfl, (Only.refl _ w).alloc _⟩
end Go.Proofs.Ythflglejhhebeaa.cs
