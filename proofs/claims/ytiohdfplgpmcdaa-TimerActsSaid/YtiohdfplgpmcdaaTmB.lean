/- Timers: the row; find; Drop; Len; New. -/
import Derived.Test.YtiohdfplgpmcdaaTmA
namespace Go.Proofs.Ytiohdfplgpmcdaa.tmw
open Go.RowKit mem rowz
set_option linter.unusedVariables false

structure Tm where
  a : Int
  i : Int
deriving Inhabited
def encM (x : Tm) : List Value := [.int .i64 x.a, .int .i64 x.i]
def mv (l : List Tm) : List Value := l.flatMap encM
theorem mv_cons (x : Tm) (r : List Tm) : mv (x :: r) = encM x ++ mv r := by simp [mv]
theorem mv_append (a b : List Tm) : mv (a ++ b) = mv a ++ mv b := by simp [mv]
theorem mv_length (l : List Tm) : (mv l).length = l.length * 2 := by
  induction l with
  | nil => rfl
  | cons x r ih => rw [mv_cons, List.length_append, ih, List.length_cons]; simp [encM]; omega
theorem mv_one (l : List Tm) : ∀ u ∈ mv l, u.oneCell' = true := by
  intro u hu
  simp only [mv, List.mem_flatMap] at hu
  obtain ⟨x, _, hx⟩ := hu
  simp [encM] at hx
  rcases hx with rfl | rfl <;> rfl
theorem mv_take : ∀ (l : List Tm) (k : Nat), (mv l).take (k * 2) = mv (l.take k) := by
  intro l
  induction l with
  | nil => intro k; simp [mv]
  | cons x r ih =>
    intro k
    cases k with
    | zero => simp [mv]
    | succ k =>
      have e : (k + 1) * 2 = k * 2 + 2 := by omega
      rw [e, List.take_succ_cons, mv_cons, mv_cons, ← ih k]
      rfl
theorem mv_drop : ∀ (l : List Tm) (k : Nat), (mv l).drop (k * 2) = mv (l.drop k) := by
  intro l
  induction l with
  | nil => intro k; simp [mv]
  | cons x r ih =>
    intro k
    cases k with
    | zero => simp [mv]
    | succ k =>
      have e : (k + 1) * 2 = k * 2 + 2 := by omega
      rw [e, List.drop_succ_cons, mv_cons, ← ih k]
      rfl
theorem mv_get (l : List Tm) (i c : Nat) (hi : i < l.length) (hc : c < 2) : (mv l)[i * 2 + c]? = (encM (l.getD i default))[c]? := by
  have h : l.drop i = l.getD i default :: l.drop (i + 1) := by rw [List.drop_eq_getElem_cons hi]; simp [List.getD, hi]
  rw [← List.getElem?_drop, mv_drop, h, mv_cons, List.getElem?_append_left (by show c < 2; exact hc)]
def OwnM (w : World) (v : Value) (l : List Tm) : Prop := w.ownsRow 0 80 2 v l.length (mv l)
theorem OwnM.nil (w : World) : OwnM w (.slice none 0 0) [] := World.ownsRow_nil _ _ _ _
theorem OwnM.only {S : Nat → Prop} {w w' : World} {v : Value} {l : List Tm} (h : OwnM w v l) (ho : Only S w w') (hs : ∀ k, v.ownBlock = some k → ¬ S k) : OwnM w' v l := owns_only ho h hs
theorem OwnM.lt {w : World} {v : Value} {l : List Tm} (h : OwnM w v l) {q : Nat} (hq : v.ownBlock = some q) : q < w.heap.size := by
  rcases h.2 with ⟨hv, hn⟩ | ⟨g, cap, cur, hv, hg, hh, _⟩
  · rw [hv] at hq; simp [Value.ownBlock] at hq
  · rw [hv] at hq
    have e : g = q := by simpa [Value.ownBlock] using hq
    rw [← e]; exact heap_lt hh
/-- what it reads: nothing, or a row in a block -/
theorem OwnM.form {w : World} {v : Value} {l : List Tm} (h : OwnM w v l) : (v = .slice none 0 0 ∧ l = []) ∨ ∃ g cap, v = .slice (some ⟨g, 0, none⟩) l.length cap ∧ g < w.heap.size ∧ l.length ≤ cap ∧ cap ≤ maxLen ∧ ∀ k, k < l.length → w.cell? ⟨g, k * 2, none⟩ = some (.int .i64 (l.getD k default).a) ∧ w.cell? ⟨g, k * 2 + 1, none⟩ = some (.int .i64 (l.getD k default).i) := by
  have h0 := h
  rcases h.2 with ⟨hv, hn⟩ | ⟨g, cap, cur, hv, hg, hh, hc, hm, _⟩
  · exact .inl ⟨hv, List.eq_nil_of_length_eq_zero hn⟩
  · refine .inr ⟨g, cap, hv, heap_lt hh, hc, hm, fun k hk => ?_⟩
    have h1 : w.ownsRow 0 80 2 (.slice (some ⟨g, 0, none⟩) l.length cap) l.length (mv l) := by rw [← hv]; exact h0
    have e : ∀ c, c < 2 → w.cell? ⟨g, k * 2 + c, none⟩ = (encM (l.getD k default))[c]? := fun c hc => by
      rw [h1.cellAt (k * 2 + c) (by omega), mv_get l k c hk hc]
    exact ⟨e 0 (by omega), e 1 (by omega)⟩
/-- a row that is read, nil or not -/
def ReadsM (w : World) (a : Option Addr) (len : Nat) (l : List Tm) : Prop := l.length = len ∧ (len = 0 ∨ ∃ g, a = some ⟨g, 0, none⟩ ∧ ∀ k, k < len → w.cell? ⟨g, k * 2, none⟩ = some (.int .i64 (l.getD k default).a) ∧ w.cell? ⟨g, k * 2 + 1, none⟩ = some (.int .i64 (l.getD k default).i))
theorem OwnM.reads {w : World} {v : Value} {l : List Tm} (h : OwnM w v l) : ∃ a cap, v = .slice a l.length cap ∧ l.length ≤ cap ∧ ReadsM w a l.length l := by
  rcases h.form with ⟨h1, h2⟩ | ⟨g, cap, h1, _, h3, _, h5⟩
  · subst h2; exact ⟨none, 0, h1, Nat.zero_le _, rfl, .inl rfl⟩
  · exact ⟨some ⟨g, 0, none⟩, cap, h1, h3, rfl, .inr ⟨g, rfl, h5⟩⟩
theorem ReadsM.only {S : Nat → Prop} {w w' : World} {a : Option Addr} {len : Nat} {l : List Tm} (h : ReadsM w a len l) (ho : Only S w w') (hs : ∀ x, a = some x → ¬ S x.block) : ReadsM w' a len l := by
  obtain ⟨h1, h2 | ⟨g, h2, h3⟩⟩ := h
  · exact ⟨h1, .inl h2⟩
  · have hn : ¬ S g := hs _ h2
    exact ⟨h1, .inr ⟨g, h2, fun k hk => ⟨ho.cell' (h3 k hk).1 hn, ho.cell' (h3 k hk).2 hn⟩⟩⟩

def mIdx (g : Int) : Int → List Tm → Int
  | _, [] => -1
  | i, p :: r => if p.i = g then i else mIdx g (i + 1) r
def remM (g : Int) : List Tm → List Tm
  | [] => []
  | p :: r => if p.i = g then r else p :: remM g r
theorem drop_getM (ps : List Tm) (k : Nat) (h : k < ps.length) : ps.drop k = ps.getD k default :: ps.drop (k + 1) := by
  rw [List.drop_eq_getElem_cons h]; simp [List.getD, h]
theorem mIdx_step {ps : List Tm} {k : Nat} (g : Int) (h : k < ps.length) : mIdx g k (ps.drop k) = if (ps.getD k default).i = g then (k : Int) else mIdx g ((k + 1 : Nat) : Int) (ps.drop (k + 1)) := by
  rw [drop_getM ps k h]
  rfl
theorem mIdx_rem (g : Int) : ∀ (l : List Tm) (s : Nat), (mIdx g s l = -1 ∧ remM g l = l ∧ ∀ x ∈ l, x.i ≠ g) ∨ ∃ k : Nat, k < l.length ∧ mIdx g s l = ((s + k : Nat) : Int) ∧ remM g l = l.take k ++ l.drop (k + 1) ∧ (l.getD k default).i = g := by
  intro l
  induction l with
  | nil => intro s; exact .inl ⟨rfl, rfl, fun x hx => by cases hx⟩
  | cons p r ih =>
    intro s
    unfold mIdx remM
    by_cases h : p.i = g
    · rw [if_pos h, if_pos h]
      exact .inr ⟨0, by simp, by simp, by simp, by simpa [List.getD] using h⟩
    · rw [if_neg h, if_neg h]
      have e : ((s : Int) + 1) = ((s + 1 : Nat) : Int) := by omega
      rw [e]
      rcases ih (s + 1) with ⟨h1, h2, h3⟩ | ⟨k, h1, h2, h3, h4⟩
      · refine .inl ⟨h1, by rw [h2], fun x hx => ?_⟩
        rcases List.mem_cons.1 hx with rfl | hx
        · exact h
        · exact h3 x hx
      · refine .inr ⟨k + 1, by simpa using h1, by rw [h2]; omega, by rw [h3]; simp, by simpa [List.getD] using h4⟩
set_option maxRecDepth 100000 in
theorem tid_lit (p : Tm) (g : Int) (x : Nat) (w : World) (hq : w.cell? ⟨x, 0, none⟩ = some (.int .i64 g)) :
    Calls Try.prog 62 #[.agg #[.int .i64 p.a, .int .i64 p.i], .pointer (some ⟨x, 0, none⟩)] w fun e w' => e = .returned (.bool (decide (p.i = g))) ∧ Only (fun _ => False) w w' := by
  have HO : Hid (∀ o, Only (fun _ => False) w (w.alloc o)) := Lib.hid (fun o => (Only.refl _ w).alloc o)
  have hq2 : ∀ o, (w.alloc o).cell? ⟨x, 0, none⟩ = some (.int .i64 g) := fun o => (HO.out o).cell' hq (fun f => f)
  obtain ⟨a, i⟩ := p
  dsimp only
  by_cases h0 : i = g
  · have e : (i == g) = true := by simpa using h0
    rw [decide_eq_true h0]
    subst h0
    go_enter Try.func62, Try.ntmps62
    go_wp2_with fail
    go_ret
    exact ⟨by simp, HO.out _⟩
  · have e : (i == g) = false := by simpa using h0
    rw [decide_eq_false h0]
    go_enter Try.func62, Try.ntmps62
    go_wp2_with fail
    go_ret
    exact ⟨by simp, HO.out _⟩
set_option maxRecDepth 100000 in
set_option maxHeartbeats 1000000 in
theorem tidx_any (a : Option Addr) (len cap : Nat) (ps : List Tm) (g : Int) (x : Nat) (w : World) (hm : len ≤ 100000) (h : ReadsM w a len ps) (hq : w.cell? ⟨x, 0, none⟩ = some (.int .i64 g)) :
    Calls Try.prog 61 #[.slice a len cap, .func (.func 62) #[] #[.pointer (some ⟨x, 0, none⟩)]] w fun e w' => e = .returned (.int .i64 (mIdx g 0 ps)) ∧ Only (fun _ => False) w w' := by
  have H := Lib.hid h
  have HL : Hid (ps.length = len) := Lib.hid h.1
  have HQ := Lib.hid hq
  clear h hq
  go_enter Try.func61, Try.ntmps61
  go_wp2_with fail
  go_loopw [8] (fun i wr => ∃ k : Nat, k ≤ len ∧ i = .int .i64 k ∧ Hid (mIdx g k (ps.drop k) = mIdx g 0 ps) ∧ Hid (Only (fun _ => False) w wr)) (fun i _ => len - (intOf i).toNat)
  case atStart => exact ⟨0, by omega, rfl, Lib.hid rfl, Lib.hid (Only.refl _ _)⟩
  case round =>
    obtain ⟨k, hk, rfl, HP, HW⟩ := hrel
    by_cases h8 : k < len
    · obtain ⟨b, rfl, hcell⟩ := H.out.2.resolve_left (by omega)
      obtain ⟨c0, c1⟩ := hcell k h8
      replace c0 := HW.out.cell' c0 (fun f => f)
      replace c1 := HW.out.cell' c1 (fun f => f)
      have hst := HP.out
      rw [mIdx_step g (by rw [HL.out]; exact h8)] at hst
      have HUL := Lib.hid (fun w' hq' => tid_lit (ps.getD k default) g x w' hq')
      generalize ps.getD k default = p at *
      obtain ⟨pa, pi⟩ := p
      dsimp only at c0 c1 hst HUL
      have HST := Lib.hid hst
      clear hcell hst
      go_wp2_with fail
      refine (HUL.out wr (HW.out.cell' HQ.out (fun f => f))).mono ?_
      rintro _ w1 ⟨rfl, h1⟩
      have HW1 := Lib.hid (HW.out.trans h1)
      clear h1 c0 c1
      by_cases h2 : pi = g
      · rw [decide_eq_true h2]
        have HR : Hid (mIdx g 0 ps = k) := Lib.hid (by rw [← HST.out, if_pos h2])
        clear h2
        go_wp2_with fail
        go_ret
        exact ⟨by rw [HR.out]; rfl, HW1.out⟩
      · rw [decide_eq_false h2]
        have HR := HST.out
        rw [if_neg h2] at HR
        replace HR := Lib.hid HR
        clear h2
        go_wp2_with fail
        go_round
        case rel => exact ⟨k + 1, by omega, by go_num, HR, HW1⟩
        case measure => simp [intOf]; omega
    · obtain rfl : k = len := by omega
      have HR : Hid (mIdx g 0 ps = -1) := Lib.hid (by rw [← HP.out, List.drop_eq_nil_of_le (by rw [HL.out]; omega)]; rfl)
      go_wp2_with fail
      go_ret
      exact ⟨by rw [HR.out]; rfl, HW.out⟩

/-- the timers in memory -/
def TmAt (w : World) (p : Nat) (v : Value) (l : List Tm) : Prop := w.cell? ⟨p, 0, none⟩ = some v ∧ w.frozen? ⟨p, 0, none⟩ = false ∧ OwnM w v l ∧ v.ownBlock ≠ some p ∧ l.length ≤ 2000
theorem TmAt.only {S : Nat → Prop} {w w' : World} {p : Nat} {v : Value} {l : List Tm} (h : TmAt w p v l) (ho : Only S w w') (hp : ¬ S p) (hs : ∀ k, v.ownBlock = some k → ¬ S k) : TmAt w' p v l :=
  ⟨ho.cell' h.1 hp, (ho.frozen (p := ⟨p, 0, none⟩) (World.block_lt_of_cell? w _ h.1) hp).trans h.2.1, h.2.2.1.only ho hs, h.2.2.2⟩
/-- what may change of timers -/
def TmS (p : Nat) (v : Value) (q : Nat) : Prop := q = p ∨ v.ownBlock = some q
theorem alloc_frozM (W : World) (cs : Array Value) (t : TypeId) (g i : Nat) (hg : g = W.heap.size) : (W.alloc (.cells cs t)).frozen? ⟨g, i, none⟩ = false := by
  subst hg
  have e : (W.alloc (.cells cs t)).heap[W.heap.size]? = some (.cells cs t) := by rw [heap_alloc, if_pos rfl]
  unfold World.frozen?
  dsimp only
  rw [e]
  simp
set_option maxRecDepth 100000 in
theorem len_any (p : Nat) (v : Value) (l : List Tm) (w : World) (h : TmAt w p v l) : Calls Try.prog 15 #[.pointer (some ⟨p, 0, none⟩)] w fun e w' => e = .returned (.int .i64 l.length) ∧ Only (fun _ => False) w w' := by
  obtain ⟨h1, _, h3, _, _⟩ := h
  obtain ⟨a, cap, rfl, hc, hr⟩ := h3.reads
  clear h3 hr
  go_enter Try.func15, Try.ntmps15
  go_wp2_with fail
  go_ret
  exact ⟨rfl, Only.refl _ _⟩
set_option maxRecDepth 100000 in
theorem tnew_any (w : World) : Calls Try.prog 16 #[] w fun e w' => e = .returned (.pointer (some ⟨w.heap.size, 0, none⟩)) ∧ TmAt w' w.heap.size (.slice none 0 0) [] ∧ Only (fun _ => False) w w' := by
  have H : Hid (TmAt (w.alloc (.cells #[.slice none 0 0] 83)) w.heap.size (.slice none 0 0) [] ∧ Only (fun _ => False) w (w.alloc (.cells #[.slice none 0 0] 83))) := Lib.hid ⟨⟨by
    rw [Go.Joins.cell_of_block (cs := #[.slice none 0 0]) (t := 83) (fr := (0, 0)) (by rw [heap_alloc, if_pos rfl])]; rfl, by
    exact alloc_frozM _ _ _ _ _ rfl, OwnM.nil _, by simp [Value.ownBlock], by simp⟩, (Only.refl _ w).alloc _⟩
  go_enter Try.func16, Try.ntmps16
  go_wp2_with fail
  go_ret
  exact ⟨rfl, H.out⟩
set_option maxRecDepth 100000 in
theorem tfind_any (p : Nat) (v : Value) (l : List Tm) (g : Int) (w : World) (h : TmAt w p v l) : Calls Try.prog 39 #[.pointer (some ⟨p, 0, none⟩), .int .i64 g] w fun e w' => e = .returned (.tuple #[.int .i64 (if mIdx g 0 l < 0 then 0 else mIdx g 0 l), .int .i64 (if mIdx g 0 l < 0 then 7 else 0)]) ∧ Only (fun _ => False) w w' := by
  obtain ⟨h1, _, h3, _, h5⟩ := h
  obtain ⟨a, cap, rfl, hc, hr⟩ := h3.reads
  have HO : Hid (Only (fun _ => False) w (w.alloc (.cells #[.int .i64 g] 3))) := Lib.hid ((Only.refl _ w).alloc _)
  have hx : (w.alloc (.cells #[.int .i64 g] 3)).cell? ⟨w.heap.size, 0, none⟩ = some (.int .i64 g) := by
    rw [Go.Joins.cell_of_block (cs := #[.int .i64 g]) (t := 3) (fr := (0, 0)) (by rw [heap_alloc, if_pos rfl])]; rfl
  have HI := Lib.hid (tidx_any a l.length cap l g w.heap.size (w.alloc (.cells #[.int .i64 g] 3)) (by omega) (hr.only HO.out (fun _ _ f => f)) hx)
  replace h1 := HO.out.cell' h1 (fun f => f)
  clear h3 hr hx h5
  generalize mIdx g 0 l = k at *
  go_enter Try.func39, Try.ntmps39
  go_wp2_with fail
  refine HI.out.mono ?_
  rintro _ w1 ⟨rfl, k1⟩
  have KE := Lib.hid (HO.out.trans k1)
  clear k1 h1 HI
  by_cases hk : k < 0
  · go_wp2_with fail
    go_ret2
    first | exact ⟨rfl, KE.out⟩ | exact ⟨by simp [hk], KE.out⟩
  · go_wp2_with fail
    go_ret2
    first | exact ⟨rfl, KE.out⟩ | exact ⟨by simp [hk], KE.out⟩ | exact ⟨by rw [if_neg (by omega), if_neg (by omega)]; rfl, KE.out⟩
end Go.Proofs.Ytiohdfplgpmcdaa.tmw
