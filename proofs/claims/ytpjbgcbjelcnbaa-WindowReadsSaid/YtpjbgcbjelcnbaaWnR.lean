/- The document's window in memory: what was ever kept; which of it is kept still. -/
import Derived.Test.YtpjbgcbjelcnbaaWnG
import Derived.Lib.MinMax
namespace Go.Proofs.Ytpjbgcbjelcnbaa.wnd
open Go.RowKit mem rowz dskw
set_option linter.unusedVariables false

def ed (x : Kp) : List Value := [.int .i64 x.n, .string (strN x.q), .string (strN x.a)]
def dvs (l : List Kp) : List Value := l.flatMap ed
theorem dvs_cons (x : Kp) (r : List Kp) : dvs (x :: r) = ed x ++ dvs r := by simp [dvs]
theorem dvs_append (a b : List Kp) : dvs (a ++ b) = dvs a ++ dvs b := by simp [dvs]
theorem dvs_length (l : List Kp) : (dvs l).length = l.length * 3 := by
  induction l with
  | nil => rfl
  | cons x r ih => rw [dvs_cons, List.length_append, ih, List.length_cons]; simp [ed]; omega
theorem dvs_one (l : List Kp) : ∀ u ∈ dvs l, u.oneCell' = true := by
  intro u hu
  simp only [dvs, List.mem_flatMap] at hu
  obtain ⟨x, _, hx⟩ := hu
  simp [ed] at hx
  rcases hx with rfl | rfl | rfl <;> rfl
theorem dvs_drop : ∀ (l : List Kp) (k : Nat), (dvs l).drop (k * 3) = dvs (l.drop k) := by
  intro l
  induction l with
  | nil => intro k; simp [dvs]
  | cons x r ih =>
    intro k
    cases k with
    | zero => simp [dvs]
    | succ k =>
      have e : (k + 1) * 3 = k * 3 + 3 := by omega
      rw [e, List.drop_succ_cons, dvs_cons, ← ih k]
      rfl
theorem dvs_get (l : List Kp) (i c : Nat) (hi : i < l.length) (hc : c < 3) : (dvs l)[i * 3 + c]? = (ed (l.getD i default))[c]? := by
  have h : l.drop i = l.getD i default :: l.drop (i + 1) := by rw [List.drop_eq_getElem_cons hi]; simp [List.getD, hi]
  rw [← List.getElem?_drop, dvs_drop, h, dvs_cons, List.getElem?_append_left (by show c < 3; exact hc)]
def OwnD (w : World) (v : Value) (D : List Kp) : Prop := w.ownsRow 0 136 3 v D.length (dvs D)
theorem OwnD.nil (w : World) : OwnD w (.slice none 0 0) [] := World.ownsRow_nil _ _ _ _
theorem OwnD.only {S : Nat → Prop} {w w' : World} {v : Value} {l : List Kp} (h : OwnD w v l) (ho : Only S w w') (hs : ∀ k, v.ownBlock = some k → ¬ S k) : OwnD w' v l := owns_only ho h hs
theorem OwnD.lt {w : World} {v : Value} {l : List Kp} (h : OwnD w v l) {q : Nat} (hq : v.ownBlock = some q) : q < w.heap.size := by
  rcases h.2 with ⟨hv, hn⟩ | ⟨g, cap, cur, hv, hg, hh, _⟩
  · rw [hv] at hq; simp [Value.ownBlock] at hq
  · rw [hv] at hq
    have e : g = q := by simpa [Value.ownBlock] using hq
    rw [← e]; exact heap_lt hh
theorem OwnD.form {w : World} {v : Value} {l : List Kp} (h : OwnD w v l) : (v = .slice none 0 0 ∧ l = []) ∨ ∃ g cap, v = .slice (some ⟨g, 0, none⟩) l.length cap ∧ g < w.heap.size ∧ l.length ≤ cap ∧ cap ≤ maxLen ∧ ∀ k, k < l.length → w.cell? ⟨g, k * 3, none⟩ = some (.int .i64 (l.getD k default).n) ∧ w.cell? ⟨g, k * 3 + 1, none⟩ = some (.string (strN (l.getD k default).q)) ∧ w.cell? ⟨g, k * 3 + 2, none⟩ = some (.string (strN (l.getD k default).a)) := by
  have h0 := h
  rcases h.2 with ⟨hv, hn⟩ | ⟨g, cap, cur, hv, hg, hh, hc, hm, _⟩
  · exact .inl ⟨hv, List.eq_nil_of_length_eq_zero hn⟩
  · refine .inr ⟨g, cap, hv, heap_lt hh, hc, hm, fun k hk => ?_⟩
    have h1 : w.ownsRow 0 136 3 (.slice (some ⟨g, 0, none⟩) l.length cap) l.length (dvs l) := by rw [← hv]; exact h0
    have e : ∀ c, c < 3 → w.cell? ⟨g, k * 3 + c, none⟩ = (ed (l.getD k default))[c]? := fun c hc => by
      rw [h1.cellAt (k * 3 + c) (by omega), dvs_get l k c hk hc]
    exact ⟨e 0 (by omega), e 1 (by omega), e 2 (by omega)⟩
/-- a row that is read, from some place on -/
def ReadsD (w : World) (a : Option Addr) (len : Nat) (l : List Kp) : Prop := l.length = len ∧ (len = 0 ∨ ∃ g o, a = some ⟨g, o, none⟩ ∧ ∀ k, k < len → w.cell? ⟨g, o + k * 3, none⟩ = some (.int .i64 (l.getD k default).n) ∧ w.cell? ⟨g, o + k * 3 + 1, none⟩ = some (.string (strN (l.getD k default).q)) ∧ w.cell? ⟨g, o + k * 3 + 2, none⟩ = some (.string (strN (l.getD k default).a)))
theorem ReadsD.only {S : Nat → Prop} {w w' : World} {a : Option Addr} {len : Nat} {l : List Kp} (h : ReadsD w a len l) (ho : Only S w w') (hs : ∀ x, a = some x → ¬ S x.block) : ReadsD w' a len l := by
  refine ⟨h.1, h.2.imp (fun x => x) fun ⟨g, o, e, hc⟩ => ⟨g, o, e, fun k hk => ?_⟩⟩
  obtain ⟨c0, c1, c2⟩ := hc k hk
  have hn : ¬ S g := hs _ e
  exact ⟨ho.cell' c0 hn, ho.cell' c1 hn, ho.cell' c2 hn⟩
/-- what a text of bytes asks -/
def KOk (x : Kp) : Prop := (∀ c ∈ x.q, c < 256) ∧ (∀ c ∈ x.a, c < 256) ∧ x.q.length ≤ 65536 ∧ x.a.length ≤ 65536 ∧ 0 ≤ x.n ∧ x.n ≤ 4611686018427387904
/-- the document's window in memory -/
structure DwAt (w : World) (r : Nat) (m : Nat) (strict : Bool) (v : Value) (D : List Kp) : Prop where
  c0 : w.cell? ⟨r, 0, none⟩ = some (.int .i64 (m : Int))
  c1 : w.cell? ⟨r, 1, none⟩ = some (.bool strict)
  c2 : w.cell? ⟨r, 2, none⟩ = some v
  f2 : w.frozen? ⟨r, 2, none⟩ = false
  own : OwnD w v D
  np : v.ownBlock ≠ some r
  len : D.length ≤ 1000
  mo : 1 ≤ m ∧ m ≤ 64
  ok : ∀ x ∈ D, KOk x
theorem DwAt.lt {w : World} {r m : Nat} {strict : Bool} {v : Value} {D : List Kp} (h : DwAt w r m strict v D) : r < w.heap.size := World.block_lt_of_cell? w _ h.c0
theorem DwAt.only {S : Nat → Prop} {w w' : World} {r m : Nat} {strict : Bool} {v : Value} {D : List Kp} (h : DwAt w r m strict v D) (ho : Only S w w') (hr : ¬ S r) (hv : ∀ q, v.ownBlock = some q → ¬ S q) : DwAt w' r m strict v D :=
  ⟨ho.cell' h.c0 hr, ho.cell' h.c1 hr, ho.cell' h.c2 hr, (ho.frozen (p := ⟨r, 2, none⟩) h.lt hr).trans h.f2, h.own.only ho hv, h.np, h.len, h.mo, h.ok⟩
theorem DwAt.quiet {w w' : World} {r m : Nat} {strict : Bool} {v : Value} {D : List Kp} (h : DwAt w r m strict v D) (ho : Only (fun _ => False) w w') : DwAt w' r m strict v D := h.only ho (fun f => f) (fun _ _ f => f)
def keptD (m : Nat) (D : List Kp) : List Kp := D.drop (D.length - m)
theorem keptD_len (m : Nat) (D : List Kp) : (keptD m D).length = min D.length m := by unfold keptD; rw [List.length_drop]; omega
theorem keptD_last (m : Nat) (D : List Kp) (hm : 1 ≤ m) : lastK (keptD m D) = lastK D := by
  unfold lastK
  rw [keptD_len]
  by_cases h : D.length = 0
  · rw [if_pos (by omega), if_pos h]
  · rw [if_neg (by omega), if_neg h]
    congr 1
    unfold keptD
    simp only [List.getD, List.getElem?_drop]
    congr 2
    omega
theorem keptD_mem {m : Nat} {D : List Kp} {x : Kp} (h : x ∈ keptD m D) : x ∈ D := List.mem_of_mem_drop h
theorem keptD_get (m : Nat) (D : List Kp) (k : Nat) : (keptD m D).getD k default = D.getD (D.length - m + k) default := by
  unfold keptD
  simp only [List.getD, List.getElem?_drop]
/-- one more that is kept -/
theorem keptD_more (m : Nat) (D : List Kp) (x : Kp) (hm : 1 ≤ m) : keepK (keptD m D) (m : Int) x = keptD m (D ++ [x]) := by
  unfold keepK
  rw [List.length_append, keptD_len, List.length_singleton]
  unfold keptD
  rw [List.length_append, List.length_singleton]
  have e : D.drop (D.length - m) ++ [x] = (D ++ [x]).drop (D.length - m) := by rw [List.drop_append_of_le_length (by omega)]
  rw [e]
  by_cases h : D.length < m
  · rw [if_neg (by omega)]
    congr 1
    omega
  · rw [if_pos (by omega), List.drop_drop]
    congr 1
    omega
theorem getK_ok {D : List Kp} (h : ∀ x ∈ D, KOk x) {k : Nat} (hk : k < D.length) : KOk (D.getD k default) := by
  have : D.getD k default = D[k] := by simp [List.getD, hk]
  rw [this]; exact h _ (List.getElem_mem hk)
theorem lookK_ok {D : List Kp} (m : Nat) (h : ∀ x ∈ D, KOk x) (strict : Bool) (n : Int) (q : List Nat) : (∀ c ∈ lookA (keptD m D) strict n q, c < 256) ∧ (lookA (keptD m D) strict n q).length ≤ 65536 := by
  have key : ∀ l : List Nat, l = [] → (∀ c ∈ l, c < 256) ∧ l.length ≤ 65536 := by rintro _ rfl; exact ⟨fun c hc => (by cases hc), by simp⟩
  unfold lookA lookR
  by_cases h1 : n < 0 ∨ 4611686018427387904 < n
  · rw [if_pos h1]; exact key _ rfl
  · rw [if_neg h1]
    unfold lookK
    split
    · rename_i x hx
      have hxm := h x (keptD_mem (List.mem_of_find?_eq_some hx))
      split
      · exact ⟨hxm.2.1, hxm.2.2.2.1⟩
      · exact key _ rfl
    · split
      · exact key _ rfl
      · split <;> exact key _ rfl
end Go.Proofs.Ytpjbgcbjelcnbaa.wnd
