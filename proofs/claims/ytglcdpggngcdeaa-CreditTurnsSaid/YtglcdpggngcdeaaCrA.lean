/- A table of sessions without grants. -/
import Derived.Test.YtglcdpggngcdeaaCrDel
import Derived.Test.YtglcdpggngcdeaaOwI
import Derived.Test.YtglcdpggngcdeaaHeldL
import Derived.IntWalk
import Derived.Lib.SliceRun
namespace Go.Proofs.Ytglcdpggngcdeaa.crd
open Go.RowKit mem rowz owi
set_option linter.unusedVariables false

/-- a session without grants -/
structure Se where
  i : Int
  nd : Int
deriving Inhabited
def encS (x : Se) : List Value := [.int .i64 x.i, .int .i64 x.nd, .int .i64 0, .int .i64 0, .slice none 0 0]
def sv (l : List Se) : List Value := l.flatMap encS
theorem sv_cons (x : Se) (r : List Se) : sv (x :: r) = encS x ++ sv r := by simp [sv]
theorem sv_append (a b : List Se) : sv (a ++ b) = sv a ++ sv b := by simp [sv]
theorem sv_length (l : List Se) : (sv l).length = l.length * 5 := by
  induction l with
  | nil => rfl
  | cons x r ih => rw [sv_cons, List.length_append, ih, List.length_cons]; simp [encS]; omega
theorem sv_one (l : List Se) : ∀ u ∈ sv l, u.oneCell' = true := by
  intro u hu
  simp only [sv, List.mem_flatMap] at hu
  obtain ⟨x, _, hx⟩ := hu
  simp [encS] at hx
  rcases hx with rfl | rfl | rfl | rfl <;> rfl
theorem sv_take : ∀ (l : List Se) (k : Nat), (sv l).take (k * 5) = sv (l.take k) := by
  intro l
  induction l with
  | nil => intro k; simp [sv]
  | cons x r ih =>
    intro k
    cases k with
    | zero => simp [sv]
    | succ k =>
      have e : (k + 1) * 5 = k * 5 + 5 := by omega
      rw [e, List.take_succ_cons, sv_cons, sv_cons, ← ih k]
      rfl
theorem sv_drop : ∀ (l : List Se) (k : Nat), (sv l).drop (k * 5) = sv (l.drop k) := by
  intro l
  induction l with
  | nil => intro k; simp [sv]
  | cons x r ih =>
    intro k
    cases k with
    | zero => simp [sv]
    | succ k =>
      have e : (k + 1) * 5 = k * 5 + 5 := by omega
      rw [e, List.drop_succ_cons, sv_cons, ← ih k]
      rfl
theorem sv_get (l : List Se) (i c : Nat) (hi : i < l.length) (hc : c < 5) : (sv l)[i * 5 + c]? = (encS (l.getD i default))[c]? := by
  have h : l.drop i = l.getD i default :: l.drop (i + 1) := by rw [List.drop_eq_getElem_cons hi]; simp [List.getD, hi]
  rw [← List.getElem?_drop, sv_drop, h, sv_cons, List.getElem?_append_left (by show c < 5; exact hc)]
def OwnS (w : World) (v : Value) (l : List Se) : Prop := w.ownsRow 0 25 5 v l.length (sv l)
theorem OwnS.nil (w : World) : OwnS w (.slice none 0 0) [] := World.ownsRow_nil _ _ _ _
theorem OwnS.only {S : Nat → Prop} {w w' : World} {v : Value} {l : List Se} (h : OwnS w v l) (ho : Only S w w') (hs : ∀ k, v.ownBlock = some k → ¬ S k) : OwnS w' v l := owns_only ho h hs
theorem OwnS.lt {w : World} {v : Value} {l : List Se} (h : OwnS w v l) {q : Nat} (hq : v.ownBlock = some q) : q < w.heap.size := by
  rcases h.2 with ⟨hv, hn⟩ | ⟨g, cap, cur, hv, hg, hh, _⟩
  · rw [hv] at hq; simp [Value.ownBlock] at hq
  · rw [hv] at hq
    have e : g = q := by simpa [Value.ownBlock] using hq
    rw [← e]; exact heap_lt hh
theorem OwnS.form {w : World} {v : Value} {l : List Se} (h : OwnS w v l) : (v = .slice none 0 0 ∧ l = []) ∨ ∃ g cap, v = .slice (some ⟨g, 0, none⟩) l.length cap ∧ g < w.heap.size ∧ l.length ≤ cap ∧ cap ≤ maxLen ∧ ∀ k, k < l.length → w.cell? ⟨g, k * 5, none⟩ = some (.int .i64 (l.getD k default).i) ∧ w.cell? ⟨g, k * 5 + 1, none⟩ = some (.int .i64 (l.getD k default).nd) ∧ w.cell? ⟨g, k * 5 + 2, none⟩ = some (.int .i64 0) ∧ w.cell? ⟨g, k * 5 + 3, none⟩ = some (.int .i64 0) ∧ w.cell? ⟨g, k * 5 + 4, none⟩ = some (.slice none 0 0) := by
  have h0 := h
  rcases h.2 with ⟨hv, hn⟩ | ⟨g, cap, cur, hv, hg, hh, hc, hm, _⟩
  · exact .inl ⟨hv, List.eq_nil_of_length_eq_zero hn⟩
  · refine .inr ⟨g, cap, hv, heap_lt hh, hc, hm, fun k hk => ?_⟩
    have h1 : w.ownsRow 0 25 5 (.slice (some ⟨g, 0, none⟩) l.length cap) l.length (sv l) := by rw [← hv]; exact h0
    have e : ∀ c, c < 5 → w.cell? ⟨g, k * 5 + c, none⟩ = (encS (l.getD k default))[c]? := fun c hc => by
      rw [h1.cellAt (k * 5 + c) (by omega), sv_get l k c hk hc]
    exact ⟨e 0 (by omega), e 1 (by omega), e 2 (by omega), e 3 (by omega), e 4 (by omega)⟩
/-- a row that is read, nil or not -/
def ReadsS (w : World) (a : Option Addr) (len : Nat) (l : List Se) : Prop := l.length = len ∧ (len = 0 ∨ ∃ g, a = some ⟨g, 0, none⟩ ∧ ∀ k, k < len → w.cell? ⟨g, k * 5, none⟩ = some (.int .i64 (l.getD k default).i) ∧ w.cell? ⟨g, k * 5 + 1, none⟩ = some (.int .i64 (l.getD k default).nd) ∧ w.cell? ⟨g, k * 5 + 2, none⟩ = some (.int .i64 0) ∧ w.cell? ⟨g, k * 5 + 3, none⟩ = some (.int .i64 0) ∧ w.cell? ⟨g, k * 5 + 4, none⟩ = some (.slice none 0 0))
theorem OwnS.reads {w : World} {v : Value} {l : List Se} (h : OwnS w v l) : ∃ a cap, v = .slice a l.length cap ∧ l.length ≤ cap ∧ ReadsS w a l.length l := by
  rcases h.form with ⟨rfl, rfl⟩ | ⟨g, cap, rfl, hg, hc, hm, hk⟩
  · exact ⟨none, 0, rfl, Nat.le_refl _, ⟨rfl, .inl rfl⟩⟩
  · exact ⟨_, cap, rfl, hc, ⟨rfl, .inr ⟨g, rfl, hk⟩⟩⟩
theorem ReadsS.only {S : Nat → Prop} {w w' : World} {a : Option Addr} {len : Nat} {l : List Se} (h : ReadsS w a len l) (ho : Only S w w') (hs : ∀ x, a = some x → ¬ S x.block) : ReadsS w' a len l := by
  refine ⟨h.1, h.2.imp (fun x => x) fun ⟨g, e, hc⟩ => ⟨g, e, fun k hk => ?_⟩⟩
  obtain ⟨c0, c1, c2, c3, c4⟩ := hc k hk
  have hn : ¬ S g := hs _ e
  exact ⟨ho.cell' c0 hn, ho.cell' c1 hn, ho.cell' c2 hn, ho.cell' c3 hn, ho.cell' c4 hn⟩
/-- a table in memory, all of whose blocks are of S -/
structure CtAt (S : Nat → Prop) (w : World) (p : Nat) (places last : Int) (v : Value) (L : List Se) : Prop where
  c0 : w.cell? ⟨p, 0, none⟩ = some (.int .i64 places)
  c1 : w.cell? ⟨p, 1, none⟩ = some (.int .i64 last)
  c2 : w.cell? ⟨p, 2, none⟩ = some v
  f1 : w.frozen? ⟨p, 1, none⟩ = false
  f2 : w.frozen? ⟨p, 2, none⟩ = false
  own : OwnS w v L
  np : v.ownBlock ≠ some p
  len : L.length ≤ 100
  sp : S p
  so : ∀ q, v.ownBlock = some q → S q
theorem CtAt.lt {S : Nat → Prop} {w : World} {p : Nat} {places last : Int} {v : Value} {L : List Se} (h : CtAt S w p places last v L) : p < w.heap.size := World.block_lt_of_cell? w _ h.c0
theorem CtAt.only {S T : Nat → Prop} {w w' : World} {p : Nat} {places last : Int} {v : Value} {L : List Se} (h : CtAt S w p places last v L) (ho : Only T w w') (hT : ∀ q, S q → ¬ T q) : CtAt S w' p places last v L :=
  ⟨ho.cell' h.c0 (hT _ h.sp), ho.cell' h.c1 (hT _ h.sp), ho.cell' h.c2 (hT _ h.sp), (ho.frozen (p := ⟨p, 1, none⟩) h.lt (hT _ h.sp)).trans h.f1, (ho.frozen (p := ⟨p, 2, none⟩) h.lt (hT _ h.sp)).trans h.f2, h.own.only ho (fun k e => hT _ (h.so k e)), h.np, h.len, h.sp, h.so⟩
theorem CtAt.quiet {S : Nat → Prop} {w w' : World} {p : Nat} {places last : Int} {v : Value} {L : List Se} (h : CtAt S w p places last v L) (ho : Only (fun _ => False) w w') : CtAt S w' p places last v L := h.only ho (fun _ _ f => f)
theorem CtAt.mono {S T : Nat → Prop} {w : World} {p : Nat} {places last : Int} {v : Value} {L : List Se} (h : CtAt S w p places last v L) (hT : ∀ q, q < w.heap.size → S q → T q) : CtAt T w p places last v L :=
  ⟨h.c0, h.c1, h.c2, h.f1, h.f2, h.own, h.np, h.len, hT _ h.lt h.sp, fun q e => hT _ (h.own.lt e) (h.so q e)⟩
def sIdx (g : Int) : Int → List Se → Int
  | _, [] => -1
  | s, x :: r => if x.i = g then s else sIdx g (s + 1) r
theorem drop_getS (ps : List Se) (k : Nat) (h : k < ps.length) : ps.drop k = ps.getD k default :: ps.drop (k + 1) := by
  rw [List.drop_eq_getElem_cons h]; simp [List.getD, h]
theorem sIdx_step {ps : List Se} {k : Nat} (g : Int) (h : k < ps.length) : sIdx g k (ps.drop k) = if (ps.getD k default).i = g then (k : Int) else sIdx g ((k + 1 : Nat) : Int) (ps.drop (k + 1)) := by
  rw [drop_getS ps k h]
  show (if _ then _ else _) = _
  rw [show ((k : Int) + 1) = ((k + 1 : Nat) : Int) by omega]
theorem sIdx_at (g : Int) : ∀ (l : List Se) (s k : Nat), k < l.length → (l.getD k default).i = g → (∀ j, j < k → (l.getD j default).i ≠ g) → sIdx g s l = ((s + k : Nat) : Int) := by
  intro l
  induction l with
  | nil => intro s k h; simp at h
  | cons x r ih =>
    intro s k hk he hn
    unfold sIdx
    cases k with
    | zero => rw [if_pos (by simpa [List.getD] using he)]; simp
    | succ k =>
      have h0 := hn 0 (by omega)
      rw [if_neg (by simpa [List.getD] using h0)]
      have e : ((s : Int) + 1) = ((s + 1 : Nat) : Int) := by omega
      rw [e, ih (s + 1) k (by simpa using hk) (by simpa [List.getD] using he) (fun j hj => by have := hn (j + 1) (by omega); simpa [List.getD] using this)]
      omega
set_option maxRecDepth 100000 in
theorem sid_lit (p : Se) (g : Int) (x : Nat) (w : World) (hq : w.cell? ⟨x, 0, none⟩ = some (.int .i64 g)) :
    Calls Try.prog 93 #[.agg #[.int .i64 p.i, .int .i64 p.nd, .int .i64 0, .int .i64 0, .slice none 0 0], .pointer (some ⟨x, 0, none⟩)] w fun e w' => e = .returned (.bool (decide (p.i = g))) ∧ Only (fun _ => False) w w' := by
  have HO : Hid (∀ o, Only (fun _ => False) w (w.alloc o)) := Lib.hid (fun o => (Only.refl _ w).alloc o)
  have hq2 : ∀ o, (w.alloc o).cell? ⟨x, 0, none⟩ = some (.int .i64 g) := fun o => (HO.out o).cell' hq (fun f => f)
  obtain ⟨i, nd⟩ := p
  dsimp only
  by_cases h0 : i = g
  · have e : (i == g) = true := by simpa using h0
    rw [decide_eq_true h0]
    subst h0
    go_enter Try.func93, Try.ntmps93
    go_wp2_with fail
    go_ret
    exact ⟨by simp, HO.out _⟩
  · have e : (i == g) = false := by simpa using h0
    rw [decide_eq_false h0]
    go_enter Try.func93, Try.ntmps93
    go_wp2_with fail
    go_ret
    exact ⟨by simp, HO.out _⟩
set_option maxRecDepth 100000 in
set_option maxHeartbeats 1000000 in
theorem sidx_any (a : Option Addr) (len cap : Nat) (ps : List Se) (g : Int) (x : Nat) (w : World) (hm : len ≤ 100000) (h : ReadsS w a len ps) (hq : w.cell? ⟨x, 0, none⟩ = some (.int .i64 g)) :
    Calls Try.prog 92 #[.slice a len cap, .func (.func 93) #[] #[.pointer (some ⟨x, 0, none⟩)]] w fun e w' => e = .returned (.int .i64 (sIdx g 0 ps)) ∧ Only (fun _ => False) w w' := by
  have H := Lib.hid h
  have HL : Hid (ps.length = len) := Lib.hid h.1
  have HQ := Lib.hid hq
  clear h hq
  go_enter Try.func92, Try.ntmps92
  go_wp2_with fail
  go_loopw [8] (fun i wr => ∃ k : Nat, k ≤ len ∧ i = .int .i64 k ∧ Hid (sIdx g k (ps.drop k) = sIdx g 0 ps) ∧ Hid (Only (fun _ => False) w wr)) (fun i _ => len - (intOf i).toNat)
  case atStart => exact ⟨0, by omega, rfl, Lib.hid rfl, Lib.hid (Only.refl _ _)⟩
  case round =>
    obtain ⟨k, hk, rfl, HP, HW⟩ := hrel
    by_cases h8 : k < len
    · obtain ⟨b, rfl, hcell⟩ := H.out.2.resolve_left (by omega)
      obtain ⟨c0, c1, c2, c3, c4⟩ := hcell k h8
      replace c0 := HW.out.cell' c0 (fun f => f)
      replace c1 := HW.out.cell' c1 (fun f => f)
      replace c2 := HW.out.cell' c2 (fun f => f)
      replace c3 := HW.out.cell' c3 (fun f => f)
      replace c4 := HW.out.cell' c4 (fun f => f)
      have hst := HP.out
      rw [sIdx_step g (by rw [HL.out]; exact h8)] at hst
      have HUL := Lib.hid (fun w' hq' => sid_lit (ps.getD k default) g x w' hq')
      generalize ps.getD k default = p at *
      obtain ⟨pi, pn⟩ := p
      dsimp only at c0 c1 c2 c3 c4 hst HUL
      have HST := Lib.hid hst
      clear hcell hst
      go_wp2_with fail
      refine (HUL.out wr (HW.out.cell' HQ.out (fun f => f))).mono ?_
      rintro _ w1 ⟨rfl, h1⟩
      have HW1 := Lib.hid (HW.out.trans h1)
      clear h1 c0 c1 c2 c3 c4
      by_cases h2 : pi = g
      · rw [decide_eq_true h2]
        have HR : Hid (sIdx g 0 ps = k) := Lib.hid (by rw [← HST.out, if_pos h2])
        clear h2
        go_wp2_with fail
        go_ret
        exact ⟨by rw [HR.out]; rfl, HW1.out⟩
      · rw [decide_eq_false h2]
        have HR := HST.out
        rw [if_neg h2] at HR
        replace HR := Lib.hid HR
        clear h2
        go_wp2_with fail
        go_round
        case rel => exact ⟨k + 1, by omega, by go_num, HR, HW1⟩
        case measure => simp [intOf]; omega
    · obtain rfl : k = len := by omega
      have HR : Hid (sIdx g 0 ps = -1) := Lib.hid (by rw [← HP.out, List.drop_eq_nil_of_le (by rw [HL.out]; omega)]; rfl)
      go_wp2_with fail
      go_ret
      exact ⟨by rw [HR.out]; rfl, HW.out⟩

set_option maxRecDepth 100000 in
theorem cfind_any {S : Nat → Prop} (p : Nat) (places last : Int) (v : Value) (L : List Se) (g : Int) (w : World) (h : CtAt S w p places last v L) : Calls Try.prog 45 #[.pointer (some ⟨p, 0, none⟩), .int .i64 g] w fun e w' => e = .returned (.tuple #[.int .i64 (if sIdx g 0 L < 0 then 0 else sIdx g 0 L), .int .i64 (if sIdx g 0 L < 0 then 7 else 0)]) ∧ Only (fun _ => False) w w' := by
  have h1 := h.c2
  have hll := h.len
  obtain ⟨a, cap, rfl, hc, hr⟩ := h.own.reads
  have HO : Hid (Only (fun _ => False) w (w.alloc (.cells #[.int .i64 g] 3))) := Lib.hid ((Only.refl _ w).alloc _)
  have hx : (w.alloc (.cells #[.int .i64 g] 3)).cell? ⟨w.heap.size, 0, none⟩ = some (.int .i64 g) := by
    rw [Go.Joins.cell_of_block (cs := #[.int .i64 g]) (t := 3) (fr := (0, 0)) (by rw [heap_alloc, if_pos rfl])]; rfl
  have HI := Lib.hid (sidx_any a L.length cap L g w.heap.size (w.alloc (.cells #[.int .i64 g] 3)) (by omega) (hr.only HO.out (fun _ _ f => f)) hx)
  replace h1 := HO.out.cell' h1 (fun f => f)
  clear hr hx h
  generalize sIdx g 0 L = k at *
  go_enter Try.func45, Try.ntmps45
  go_wp2_with fail
  refine HI.out.mono ?_
  rintro _ w1 ⟨rfl, k1⟩
  have KE := Lib.hid (HO.out.trans k1)
  clear k1 h1 HI
  by_cases hk : k < 0
  · go_wp2_with fail
    go_ret2
    first | exact ⟨rfl, KE.out⟩ | exact ⟨by simp [hk], KE.out⟩
  · go_wp2_with fail
    go_ret2
    first | exact ⟨rfl, KE.out⟩ | exact ⟨by simp [hk], KE.out⟩ | exact ⟨by rw [if_neg (by omega), if_neg (by omega)]; rfl, KE.out⟩
theorem clast_any {S : Nat → Prop} (p : Nat) (places last : Int) (v : Value) (L : List Se) (w : World) (h : CtAt S w p places last v L) : Calls Try.prog 21 #[.pointer (some ⟨p, 0, none⟩)] w fun e w' => e = .returned (.int .i64 last) ∧ Only (fun _ => False) w w' := by
  have h1 := h.c1
  clear h
  go_enter Try.func21, Try.ntmps21
  go_wp2_with fail
  go_ret
  exact ⟨rfl, Only.refl _ _⟩
theorem cnew_any (places : Int) (w : World) (h1 : 1 ≤ places) (h2 : places ≤ 16) : Calls Try.prog 23 #[.int .i64 places] w fun e w' => e = .returned (.tuple #[.pointer (some ⟨w.heap.size, 0, none⟩), .int .i64 0]) ∧ CtAt (fun q => w.heap.size ≤ q) w' w.heap.size places 0 (.slice none 0 0) [] ∧ Only (fun _ => False) w w' := by
  have hcell : ∀ i u, (#[.int .i64 places, .int .i64 0, .slice none 0 0] : Array Value)[i]? = some u → (w.alloc (.cells #[.int .i64 places, .int .i64 0, .slice none 0 0] 93)).cell? ⟨w.heap.size, i, none⟩ = some u := fun i u hu => by
    rw [Go.Joins.cell_of_block (cs := #[.int .i64 places, .int .i64 0, .slice none 0 0]) (t := 93) (fr := (0, 0)) (by rw [heap_alloc, if_pos rfl])]; exact hu
  have hfr : ∀ i, (w.alloc (.cells #[.int .i64 places, .int .i64 0, .slice none 0 0] 93)).frozen? ⟨w.heap.size, i, none⟩ = false := fun i => by
    have e : (w.alloc (.cells #[.int .i64 places, .int .i64 0, .slice none 0 0] 93)).heap[w.heap.size]? = some (.cells #[.int .i64 places, .int .i64 0, .slice none 0 0] 93) := by rw [heap_alloc, if_pos rfl]
    unfold World.frozen?
    dsimp only
    rw [e]
    simp
  have H : Hid (CtAt (fun q => w.heap.size ≤ q) (w.alloc (.cells #[.int .i64 places, .int .i64 0, .slice none 0 0] 93)) w.heap.size places 0 (.slice none 0 0) [] ∧ Only (fun _ => False) w (w.alloc (.cells #[.int .i64 places, .int .i64 0, .slice none 0 0] 93))) := Lib.hid ⟨⟨hcell 0 _ rfl, hcell 1 _ rfl, hcell 2 _ rfl, hfr 1, hfr 2, OwnS.nil _, by simp [Value.ownBlock], by simp, Nat.le_refl _, (fun q e => by simp [Value.ownBlock] at e)⟩, (Only.refl _ w).alloc _⟩
  clear hcell hfr
  go_enter Try.func23, Try.ntmps23
  go_wp2_with fail
  go_ret2
  exact ⟨rfl, H.out⟩
theorem isnum_any (n : Int) (w : World) (h1 : 0 ≤ n) (h2 : n ≤ 4611686018427387904) : Calls Try.prog 96 #[.int .i64 n] w fun e w' => e = .returned (.bool true) ∧ w = w' := by
  go_enter Try.func96, Try.ntmps96
  go_wp2_with fail
  go_ret
  exact ⟨rfl, rfl⟩
theorem aregr_nil (w : World) : Calls Try.prog 97 #[.slice none 0 0] w fun e w' => e = .returned (.bool true) ∧ Only (fun _ => False) w w' := by
  have HO := Lib.hid (Only.refl (fun _ => False) w)
  go_enter Try.func97, Try.ntmps97
  go_wp2_with fail
  go_loopw [10] (fun iv wr => iv = .int .i64 0 ∧ wr = w) (fun _ _ => 0)
  case atStart => exact ⟨rfl, rfl⟩
  case round =>
    obtain ⟨rfl, rfl⟩ := hrel
    go_wp2_with fail
    go_ret
    exact ⟨rfl, HO.out⟩
set_option maxRecDepth 100000 in
theorem gclone_nil (w : World) : Calls Try.prog 94 #[.slice none 0 0] w fun e w' => e = .returned (.slice none 0 0) ∧ w = w' := by
  have hsn : ∀ w : World, (binOp .eql 23 (.slice none 0 0) (.slice none 0 0)).run Try.prog w = .ok (.bool true) w := fun w => Lib.run_eql_slice_nil w _ _ none 0 0 0 0 Try.underlying23
  go_enter Try.func94, Try.ntmps94
  go_wp2_with fail
  go_ret
  exact ⟨rfl, rfl⟩
end Go.Proofs.Ytglcdpggngcdeaa.crd
