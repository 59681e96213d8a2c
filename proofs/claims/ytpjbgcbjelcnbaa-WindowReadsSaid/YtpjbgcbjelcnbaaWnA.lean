/- A window in memory; find; Last; Len; New. -/
import Derived.Test.YtpjbgcbjelcnbaaWnDel
import Derived.Test.YtpjbgcbjelcnbaaShelf
import Derived.Test.YtpjbgcbjelcnbaaStepApp
import Derived.Lib.Hide
namespace Go.Proofs.Ytpjbgcbjelcnbaa.wnd
open Go.RowKit mem rowz
set_option linter.unusedVariables false

/-- one that is kept -/
structure Kp where
  n : Int
  q : List Nat
  a : List Nat
deriving Inhabited, DecidableEq
/-- as it stands in memory -/
structure Kd where
  n : Int
  qa : Option Addr
  qn : Nat
  qc : Nat
  q : List Nat
  aa : Option Addr
  an : Nat
  ac : Nat
  a : List Nat
deriving Inhabited
def Kd.kp (x : Kd) : Kp := ⟨x.n, x.q, x.a⟩
def encK (x : Kd) : List Value := [.int .i64 x.n, .slice x.qa x.qn x.qc, .slice x.aa x.an x.ac]
def kv (l : List Kd) : List Value := l.flatMap encK
theorem kv_cons (x : Kd) (r : List Kd) : kv (x :: r) = encK x ++ kv r := by simp [kv]
theorem kv_append (a b : List Kd) : kv (a ++ b) = kv a ++ kv b := by simp [kv]
theorem kv_length (l : List Kd) : (kv l).length = l.length * 3 := by
  induction l with
  | nil => rfl
  | cons x r ih => rw [kv_cons, List.length_append, ih, List.length_cons]; simp [encK]; omega
theorem kv_one (l : List Kd) : ∀ u ∈ kv l, u.oneCell' = true := by
  intro u hu
  simp only [kv, List.mem_flatMap] at hu
  obtain ⟨x, _, hx⟩ := hu
  simp [encK] at hx
  rcases hx with rfl | rfl | rfl <;> rfl
theorem kv_take : ∀ (l : List Kd) (k : Nat), (kv l).take (k * 3) = kv (l.take k) := by
  intro l
  induction l with
  | nil => intro k; simp [kv]
  | cons x r ih =>
    intro k
    cases k with
    | zero => simp [kv]
    | succ k =>
      have e : (k + 1) * 3 = k * 3 + 3 := by omega
      rw [e, List.take_succ_cons, kv_cons, kv_cons, ← ih k]
      rfl
theorem kv_drop : ∀ (l : List Kd) (k : Nat), (kv l).drop (k * 3) = kv (l.drop k) := by
  intro l
  induction l with
  | nil => intro k; simp [kv]
  | cons x r ih =>
    intro k
    cases k with
    | zero => simp [kv]
    | succ k =>
      have e : (k + 1) * 3 = k * 3 + 3 := by omega
      rw [e, List.drop_succ_cons, kv_cons, ← ih k]
      rfl
theorem kv_get (l : List Kd) (i c : Nat) (hi : i < l.length) (hc : c < 3) : (kv l)[i * 3 + c]? = (encK (l.getD i default))[c]? := by
  have h : l.drop i = l.getD i default :: l.drop (i + 1) := by rw [List.drop_eq_getElem_cons hi]; simp [List.getD, hi]
  rw [← List.getElem?_drop, kv_drop, h, kv_cons, List.getElem?_append_left (by show c < 3; exact hc)]
def OwnK (w : World) (v : Value) (l : List Kd) : Prop := w.ownsRow 0 123 3 v l.length (kv l)
theorem OwnK.nil (w : World) : OwnK w (.slice none 0 0) [] := World.ownsRow_nil _ _ _ _
theorem OwnK.only {S : Nat → Prop} {w w' : World} {v : Value} {l : List Kd} (h : OwnK w v l) (ho : Only S w w') (hs : ∀ k, v.ownBlock = some k → ¬ S k) : OwnK w' v l := owns_only ho h hs
theorem OwnK.lt {w : World} {v : Value} {l : List Kd} (h : OwnK w v l) {q : Nat} (hq : v.ownBlock = some q) : q < w.heap.size := by
  rcases h.2 with ⟨hv, hn⟩ | ⟨g, cap, cur, hv, hg, hh, _⟩
  · rw [hv] at hq; simp [Value.ownBlock] at hq
  · rw [hv] at hq
    have e : g = q := by simpa [Value.ownBlock] using hq
    rw [← e]; exact heap_lt hh
theorem OwnK.form {w : World} {v : Value} {l : List Kd} (h : OwnK w v l) : (v = .slice none 0 0 ∧ l = []) ∨ ∃ g cap, v = .slice (some ⟨g, 0, none⟩) l.length cap ∧ g < w.heap.size ∧ l.length ≤ cap ∧ cap ≤ maxLen ∧ ∀ k, k < l.length → w.cell? ⟨g, k * 3, none⟩ = some (.int .i64 (l.getD k default).n) ∧ w.cell? ⟨g, k * 3 + 1, none⟩ = some (.slice (l.getD k default).qa (l.getD k default).qn (l.getD k default).qc) ∧ w.cell? ⟨g, k * 3 + 2, none⟩ = some (.slice (l.getD k default).aa (l.getD k default).an (l.getD k default).ac) := by
  have h0 := h
  rcases h.2 with ⟨hv, hn⟩ | ⟨g, cap, cur, hv, hg, hh, hc, hm, _⟩
  · exact .inl ⟨hv, List.eq_nil_of_length_eq_zero hn⟩
  · refine .inr ⟨g, cap, hv, heap_lt hh, hc, hm, fun k hk => ?_⟩
    have h1 : w.ownsRow 0 123 3 (.slice (some ⟨g, 0, none⟩) l.length cap) l.length (kv l) := by rw [← hv]; exact h0
    have e : ∀ c, c < 3 → w.cell? ⟨g, k * 3 + c, none⟩ = (encK (l.getD k default))[c]? := fun c hc => by
      rw [h1.cellAt (k * 3 + c) (by omega), kv_get l k c hk hc]
    exact ⟨e 0 (by omega), e 1 (by omega), e 2 (by omega)⟩
/-- a row that is read, nil or not -/
def ReadsK (w : World) (a : Option Addr) (len : Nat) (l : List Kd) : Prop := l.length = len ∧ (len = 0 ∨ ∃ g, a = some ⟨g, 0, none⟩ ∧ ∀ k, k < len → w.cell? ⟨g, k * 3, none⟩ = some (.int .i64 (l.getD k default).n) ∧ w.cell? ⟨g, k * 3 + 1, none⟩ = some (.slice (l.getD k default).qa (l.getD k default).qn (l.getD k default).qc) ∧ w.cell? ⟨g, k * 3 + 2, none⟩ = some (.slice (l.getD k default).aa (l.getD k default).an (l.getD k default).ac))
theorem OwnK.reads {w : World} {v : Value} {l : List Kd} (h : OwnK w v l) : ∃ a cap, v = .slice a l.length cap ∧ l.length ≤ cap ∧ ReadsK w a l.length l ∧ ∀ y, a = some y → v.ownBlock = some y.block := by
  rcases h.form with ⟨rfl, rfl⟩ | ⟨g, cap, rfl, hg, hc, hm, hk⟩
  · exact ⟨none, 0, rfl, Nat.le_refl _, ⟨rfl, .inl rfl⟩, fun y e => by cases e⟩
  · exact ⟨_, cap, rfl, hc, ⟨rfl, .inr ⟨g, rfl, hk⟩⟩, fun y e => by cases e; rfl⟩
theorem ReadsK.only {S : Nat → Prop} {w w' : World} {a : Option Addr} {len : Nat} {l : List Kd} (h : ReadsK w a len l) (ho : Only S w w') (hs : ∀ x, a = some x → ¬ S x.block) : ReadsK w' a len l := by
  refine ⟨h.1, h.2.imp (fun x => x) fun ⟨g, e, hc⟩ => ⟨g, e, fun k hk => ?_⟩⟩
  obtain ⟨c0, c1, c2⟩ := hc k hk
  have hn : ¬ S g := hs _ e
  exact ⟨ho.cell' c0 hn, ho.cell' c1 hn, ho.cell' c2 hn⟩
/-- what a slice's capacity is -/
def Cp (a : Option Addr) (n c : Nat) : Prop := n ≤ c ∧ c ≤ maxLen ∧ (a = none → c = 0)
/-- a slice of what is kept: bytes in a block of its own -/
def SlIn (S : Nat → Prop) (w : World) (p : Nat) (v : Value) (a : Option Addr) (n c : Nat) (l : List Nat) : Prop := Reads w a n l ∧ Cp a n c ∧ n ≤ 65536 ∧ ∀ y, a = some y → y.block < w.heap.size ∧ S y.block ∧ y.block ≠ p ∧ v.ownBlock ≠ some y.block
def KdIn (S : Nat → Prop) (w : World) (p : Nat) (v : Value) (x : Kd) : Prop := SlIn S w p v x.qa x.qn x.qc x.q ∧ SlIn S w p v x.aa x.an x.ac x.a
/-- a window in memory, all of whose blocks are of S -/
structure WnAt (S : Nat → Prop) (w : World) (p : Nat) (most : Int) (strict : Bool) (v : Value) (L : List Kd) : Prop where
  c0 : w.cell? ⟨p, 0, none⟩ = some (.int .i64 most)
  c1 : w.cell? ⟨p, 1, none⟩ = some (.bool strict)
  c2 : w.cell? ⟨p, 2, none⟩ = some v
  f2 : w.frozen? ⟨p, 2, none⟩ = false
  own : OwnK w v L
  np : v.ownBlock ≠ some p
  len : (L.length : Int) ≤ most
  mo : 1 ≤ most ∧ most ≤ 64
  nb : ∀ x ∈ L, 0 ≤ x.n ∧ x.n ≤ 4611686018427387904
  sp : S p
  sv : ∀ q, v.ownBlock = some q → S q
  kd : ∀ x ∈ L, KdIn S w p v x
theorem SlIn.only {S T : Nat → Prop} {w w' : World} {p : Nat} {v : Value} {a : Option Addr} {n c : Nat} {l : List Nat} (h : SlIn S w p v a n c l) (ho : Only T w w') (hT : ∀ q, S q → ¬ T q) : SlIn S w' p v a n c l :=
  ⟨h.1.only ho (fun y e => hT _ (h.2.2.2 y e).2.1), h.2.1, h.2.2.1, fun y e => by obtain ⟨h1, h2, h3, h4⟩ := h.2.2.2 y e; exact ⟨by have := ho.size; omega, h2, h3, h4⟩⟩
theorem KdIn.only {S T : Nat → Prop} {w w' : World} {p : Nat} {v : Value} {x : Kd} (h : KdIn S w p v x) (ho : Only T w w') (hT : ∀ q, S q → ¬ T q) : KdIn S w' p v x := ⟨h.1.only ho hT, h.2.only ho hT⟩
theorem WnAt.lt {S : Nat → Prop} {w : World} {p : Nat} {most : Int} {strict : Bool} {v : Value} {L : List Kd} (h : WnAt S w p most strict v L) : p < w.heap.size := World.block_lt_of_cell? w _ h.c0
theorem WnAt.only {S T : Nat → Prop} {w w' : World} {p : Nat} {most : Int} {strict : Bool} {v : Value} {L : List Kd} (h : WnAt S w p most strict v L) (ho : Only T w w') (hT : ∀ q, S q → ¬ T q) : WnAt S w' p most strict v L :=
  ⟨ho.cell' h.c0 (hT _ h.sp), ho.cell' h.c1 (hT _ h.sp), ho.cell' h.c2 (hT _ h.sp), (ho.frozen (p := ⟨p, 2, none⟩) h.lt (hT _ h.sp)).trans h.f2, h.own.only ho (fun k e => hT _ (h.sv k e)), h.np, h.len, h.mo, h.nb, h.sp, h.sv, fun x hx => (h.kd x hx).only ho hT⟩
theorem WnAt.quiet {S : Nat → Prop} {w w' : World} {p : Nat} {most : Int} {strict : Bool} {v : Value} {L : List Kd} (h : WnAt S w p most strict v L) (ho : Only (fun _ => False) w w') : WnAt S w' p most strict v L := h.only ho (fun _ _ f => f)
theorem WnAt.mono {S T : Nat → Prop} {w : World} {p : Nat} {most : Int} {strict : Bool} {v : Value} {L : List Kd} (h : WnAt S w p most strict v L) (hT : ∀ q, S q → T q) : WnAt T w p most strict v L :=
  ⟨h.c0, h.c1, h.c2, h.f2, h.own, h.np, h.len, h.mo, h.nb, hT _ h.sp, fun q e => hT _ (h.sv q e), fun x hx => ⟨⟨(h.kd x hx).1.1, (h.kd x hx).1.2.1, (h.kd x hx).1.2.2.1, fun y e => by obtain ⟨h1, h2, h3⟩ := (h.kd x hx).1.2.2.2 y e; exact ⟨h1, hT _ h2, h3⟩⟩, ⟨(h.kd x hx).2.1, (h.kd x hx).2.2.1, (h.kd x hx).2.2.2.1, fun y e => by obtain ⟨h1, h2, h3⟩ := (h.kd x hx).2.2.2.2 y e; exact ⟨h1, hT _ h2, h3⟩⟩⟩⟩
/-- what a window of the kept ones answers -/
def lastK (K : List Kp) : Int := if K.length = 0 then -1 else (K.getD (K.length - 1) default).n
def lookK (K : List Kp) (strict : Bool) (n : Int) (q : List Nat) : Int × List Nat :=
  match K.find? (fun x => decide (x.n = n)) with
  | some x => if x.q = q then (0, x.a) else (14, [])
  | none => if n ≤ lastK K then (13, []) else if strict = true ∧ n ≠ lastK K + 1 then (15, []) else (7, [])
def lookR (K : List Kp) (strict : Bool) (n : Int) (q : List Nat) : Int × List Nat := if n < 0 ∨ 4611686018427387904 < n then (1, []) else lookK K strict n q
def lookE (K : List Kp) (strict : Bool) (n : Int) (q : List Nat) : Int := (lookR K strict n q).1
def lookA (K : List Kp) (strict : Bool) (n : Int) (q : List Nat) : List Nat := (lookR K strict n q).2
def kIdx (g : Int) : Int → List Kd → Int
  | _, [] => -1
  | s, x :: r => if x.n = g then s else kIdx g (s + 1) r
theorem drop_getK (ps : List Kd) (k : Nat) (h : k < ps.length) : ps.drop k = ps.getD k default :: ps.drop (k + 1) := by
  rw [List.drop_eq_getElem_cons h]; simp [List.getD, h]
theorem kIdx_step {ps : List Kd} {k : Nat} (g : Int) (h : k < ps.length) : kIdx g k (ps.drop k) = if (ps.getD k default).n = g then (k : Int) else kIdx g ((k + 1 : Nat) : Int) (ps.drop (k + 1)) := by
  rw [drop_getK ps k h]
  show (if _ then _ else _) = _
  rw [show ((k : Int) + 1) = ((k + 1 : Nat) : Int) by omega]
theorem kIdx_find (g : Int) : ∀ (l : List Kd) (s : Nat), (kIdx g s l = -1 ∧ (l.map Kd.kp).find? (fun x => decide (x.n = g)) = none) ∨ ∃ k : Nat, k < l.length ∧ kIdx g s l = ((s + k : Nat) : Int) ∧ (l.map Kd.kp).find? (fun x => decide (x.n = g)) = some (l.getD k default).kp := by
  intro l
  induction l with
  | nil => intro s; exact .inl ⟨rfl, rfl⟩
  | cons p r ih =>
    intro s
    unfold kIdx
    by_cases h : p.n = g
    · rw [if_pos h]
      refine .inr ⟨0, by simp, by simp, ?_⟩
      have : p.kp.n = g := h
      simp [this]
    · rw [if_neg h]
      have hp : ¬ p.kp.n = g := h
      have e : ((s : Int) + 1) = ((s + 1 : Nat) : Int) := by omega
      rw [e, List.map_cons, List.find?_cons, decide_eq_false hp]
      rcases ih (s + 1) with ⟨h1, h2⟩ | ⟨k, h1, h2, h3⟩
      · exact .inl ⟨h1, h2⟩
      · exact .inr ⟨k + 1, by simpa using h1, by rw [h2]; omega, by rw [h3]; rfl⟩
set_option maxRecDepth 100000 in
theorem kid_lit (p : Kd) (g : Int) (x : Nat) (w : World) (hq : w.cell? ⟨x, 0, none⟩ = some (.int .i64 g)) :
    Calls Try.prog 71 #[.agg #[.int .i64 p.n, .slice p.qa p.qn p.qc, .slice p.aa p.an p.ac], .pointer (some ⟨x, 0, none⟩)] w fun e w' => e = .returned (.bool (decide (p.n = g))) ∧ Only (fun _ => False) w w' := by
  have HO : Hid (∀ o, Only (fun _ => False) w (w.alloc o)) := Lib.hid (fun o => (Only.refl _ w).alloc o)
  have hq2 : ∀ o, (w.alloc o).cell? ⟨x, 0, none⟩ = some (.int .i64 g) := fun o => (HO.out o).cell' hq (fun f => f)
  obtain ⟨i, qa, qn, qc, q, aa, an, ac, a⟩ := p
  dsimp only
  by_cases h0 : i = g
  · have e : (i == g) = true := by simpa using h0
    rw [decide_eq_true h0]
    subst h0
    go_enter Try.func71, Try.ntmps71
    go_wp2_with fail
    go_ret
    exact ⟨by simp, HO.out _⟩
  · have e : (i == g) = false := by simpa using h0
    rw [decide_eq_false h0]
    go_enter Try.func71, Try.ntmps71
    go_wp2_with fail
    go_ret
    exact ⟨by simp, HO.out _⟩
set_option maxRecDepth 100000 in
set_option maxHeartbeats 1000000 in
theorem kidx_any (a : Option Addr) (len cap : Nat) (ps : List Kd) (g : Int) (x : Nat) (w : World) (hm : len ≤ 100000) (h : ReadsK w a len ps) (hq : w.cell? ⟨x, 0, none⟩ = some (.int .i64 g)) :
    Calls Try.prog 70 #[.slice a len cap, .func (.func 71) #[] #[.pointer (some ⟨x, 0, none⟩)]] w fun e w' => e = .returned (.int .i64 (kIdx g 0 ps)) ∧ Only (fun _ => False) w w' := by
  have H := Lib.hid h
  have HL : Hid (ps.length = len) := Lib.hid h.1
  have HQ := Lib.hid hq
  clear h hq
  go_enter Try.func70, Try.ntmps70
  go_wp2_with fail
  go_loopw [8] (fun i wr => ∃ k : Nat, k ≤ len ∧ i = .int .i64 k ∧ Hid (kIdx g k (ps.drop k) = kIdx g 0 ps) ∧ Hid (Only (fun _ => False) w wr)) (fun i _ => len - (intOf i).toNat)
  case atStart => exact ⟨0, by omega, rfl, Lib.hid rfl, Lib.hid (Only.refl _ _)⟩
  case round =>
    obtain ⟨k, hk, rfl, HP, HW⟩ := hrel
    by_cases h8 : k < len
    · obtain ⟨b, rfl, hcell⟩ := H.out.2.resolve_left (by omega)
      obtain ⟨c0, c1, c2⟩ := hcell k h8
      replace c0 := HW.out.cell' c0 (fun f => f)
      replace c1 := HW.out.cell' c1 (fun f => f)
      replace c2 := HW.out.cell' c2 (fun f => f)
      have hst := HP.out
      rw [kIdx_step g (by rw [HL.out]; exact h8)] at hst
      have HUL := Lib.hid (fun w' hq' => kid_lit (ps.getD k default) g x w' hq')
      generalize ps.getD k default = p at *
      obtain ⟨pi, qa, qn, qc, q, aa, an, ac, a⟩ := p
      dsimp only at c0 c1 c2 hst HUL
      have HST := Lib.hid hst
      clear hcell hst
      go_wp2_with fail
      refine (HUL.out wr (HW.out.cell' HQ.out (fun f => f))).mono ?_
      rintro _ w1 ⟨rfl, h1⟩
      have HW1 := Lib.hid (HW.out.trans h1)
      clear h1 c0 c1 c2
      by_cases h2 : pi = g
      · rw [decide_eq_true h2]
        have HR : Hid (kIdx g 0 ps = k) := Lib.hid (by rw [← HST.out, if_pos h2])
        clear h2
        go_wp2_with fail
        go_ret
        exact ⟨by rw [HR.out]; rfl, HW1.out⟩
      · rw [decide_eq_false h2]
        have HR := HST.out
        rw [if_neg h2] at HR
        replace HR := Lib.hid HR
        clear h2
        go_wp2_with fail
        go_round
        case rel => exact ⟨k + 1, by omega, by go_num, HR, HW1⟩
        case measure => simp [intOf]; omega
    · obtain rfl : k = len := by omega
      have HR : Hid (kIdx g 0 ps = -1) := Lib.hid (by rw [← HP.out, List.drop_eq_nil_of_le (by rw [HL.out]; omega)]; rfl)
      go_wp2_with fail
      go_ret
      exact ⟨by rw [HR.out]; rfl, HW.out⟩

set_option maxRecDepth 100000 in
theorem wlen_any {S : Nat → Prop} (p : Nat) (most : Int) (strict : Bool) (v : Value) (L : List Kd) (w : World) (h : WnAt S w p most strict v L) : Calls Try.prog 33 #[.pointer (some ⟨p, 0, none⟩)] w fun e w' => e = .returned (.int .i64 L.length) ∧ Only (fun _ => False) w w' := by
  obtain ⟨a, cap, rfl, hc, hr, -⟩ := h.own.reads
  have h1 := h.c2
  clear h hr
  go_enter Try.func33, Try.ntmps33
  go_wp2_with fail
  go_ret
  exact ⟨rfl, Only.refl _ _⟩
theorem lastK_map (L : List Kd) : lastK (L.map Kd.kp) = if L.length = 0 then -1 else (L.getD (L.length - 1) default).n := by
  unfold lastK
  rw [List.length_map]
  by_cases h : L.length = 0
  · rw [if_pos h, if_pos h]
  · rw [if_neg h, if_neg h]
    have h1 : L.length - 1 < L.length := by omega
    simp [List.getD, h1, Kd.kp]
set_option maxRecDepth 100000 in
theorem wlast_any {S : Nat → Prop} (p : Nat) (most : Int) (strict : Bool) (v : Value) (L : List Kd) (w : World) (h : WnAt S w p most strict v L) : Calls Try.prog 32 #[.pointer (some ⟨p, 0, none⟩)] w fun e w' => e = .returned (.int .i64 (lastK (L.map Kd.kp))) ∧ Only (fun _ => False) w w' := by
  have hl : L.length ≤ 64 := by have := h.len; have := h.mo.2; omega
  have hk := lastK_map L
  obtain ⟨a, cap, rfl, hc, hr, -⟩ := h.own.reads
  have h1 := h.c2
  have HO : Hid (Only (fun _ => False) w w.drew) := Lib.hid (Only.refl _ w).drew
  clear h
  by_cases h0 : L.length = 0
  · rw [if_pos h0] at hk
    rw [hk]
    rw [h0] at h1
    clear hk hr hl hc h0 HO
    go_enter Try.func32, Try.ntmps32
    go_wp2_with fail
    go_ret
    exact ⟨rfl, Only.refl _ _⟩
  · rw [if_neg h0] at hk
    obtain ⟨g, rfl, hcell⟩ := hr.2.resolve_left h0
    obtain ⟨m, hm⟩ : ∃ m, L.length = m + 1 := ⟨L.length - 1, by omega⟩
    rw [hm] at h1 hl hc
    obtain ⟨d0, -, -⟩ := hcell (L.length - 1) (by omega)
    rw [hk]
    clear hk hcell hr
    have e : L.length - 1 = m := by omega
    rw [e] at d0 ⊢
    generalize (L.getD m default).n = z at *
    have hm1 : ((m + 1 : Nat) : Int) - 1 = (m : Int) := by omega
    have hm2 : (m : Int) + 1 ≤ 64 := by omega
    have hm3 : (((m : Int) + 1) == 0) = false := by simp; omega
    have hm5 : IntKind.i64.wrap (m : Int) = (m : Int) := by rw [IntKind.wrap_i64]; omega
    have hm6 : (0 : Int) ≤ m := by omega
    have hm7 : (m : Int) < (m : Int) + 1 := by omega
    clear e h0 hm hl
    go_enter Try.func32, Try.ntmps32
    go_upto_region 5 with fail
    refine wp_region_noPanic ?_
    refine wp_region_held_drew (S := (fun w' => ∀ q, w'.cell? q = w.cell? q)) (by kernel_rfl) (fun q => by simp) (fun hHeld => ?_)
    refine wpAnyH_take (i := 0) (v := ?_) rfl (by kernel_rfl) (by kernel_rfl) (by kernel_rfl) (fun _ _ _ h => h) (Or.inl ⟨by rfl, ?_⟩) (by assumption) ?_
    rotate_left 1
    · intro w' hSw
      try dsimp only at hSw
      go_simp
      try with_reducible rfl
    try simp only [List.getElem_toArray, List.getElem_cons_zero, Act.put, List.setIfInBounds_toArray, List.set_cons_zero, List.set_cons_succ]
    refine wpAnyH_take (i := 1) (v := ?_) rfl (by kernel_rfl) (by kernel_rfl) (by kernel_rfl) (fun _ _ _ h => h) (Or.inl ⟨by rfl, ?_⟩) (by assumption) ?_
    rotate_left 1
    · intro w' hSw
      try dsimp only at hSw
      go_simp
      try with_reducible rfl
    try simp only [List.getElem_toArray, List.getElem_cons_zero, List.getElem_cons_succ, Act.put, List.setIfInBounds_toArray, List.set_cons_zero, List.set_cons_succ]
    refine wpAnyH_take (i := 2) (v := ?_) rfl (by kernel_rfl) (by kernel_rfl) (by kernel_rfl) (fun _ _ _ h => h) (Or.inl ⟨by rfl, ?_⟩) (by assumption) ?_
    rotate_left 1
    · intro w' hSw
      try dsimp only at hSw
      go_simp
      try with_reducible rfl
    try simp only [List.getElem_toArray, List.getElem_cons_zero, List.getElem_cons_succ, Act.put, List.setIfInBounds_toArray, List.set_cons_zero, List.set_cons_succ]
    refine wpAnyH_take (i := 3) (v := ?_) rfl (by kernel_rfl) (by kernel_rfl) (by kernel_rfl) (fun _ _ _ h => h) (Or.inl ⟨by rfl, ?_⟩) (by assumption) ?_
    rotate_left 1
    · intro w' hSw
      try dsimp only at hSw
      go_simp
      try with_reducible rfl
    try simp only [List.getElem_toArray, List.getElem_cons_zero, List.getElem_cons_succ, Act.put, List.setIfInBounds_toArray, List.set_cons_zero, List.set_cons_succ]
    refine wpAnyH_take (i := 4) (v := ?_) rfl (by kernel_rfl) (by kernel_rfl) (by kernel_rfl) (fun _ _ _ h => h) (Or.inl ⟨by rfl, ?_⟩) (by assumption) ?_
    rotate_left 1
    · intro w' hSw
      try dsimp only at hSw
      go_simp
      try with_reducible rfl
    try simp only [List.getElem_toArray, List.getElem_cons_zero, List.getElem_cons_succ, Act.put, List.setIfInBounds_toArray, List.set_cons_zero, List.set_cons_succ]
    refine wpAnyH_take (i := 5) (v := ?_) rfl (by kernel_rfl) (by kernel_rfl) (by kernel_rfl) (fun _ _ _ h => h) (Or.inl ⟨by rfl, ?_⟩) (by assumption) ?_
    rotate_left 1
    · intro w' hSw
      try dsimp only at hSw
      go_simp
      try with_reducible rfl
    try simp only [List.getElem_toArray, List.getElem_cons_zero, List.getElem_cons_succ, Act.put, List.setIfInBounds_toArray, List.set_cons_zero, List.set_cons_succ]
    refine wpAnyH_take (i := 6) (v := ?_) rfl (by kernel_rfl) (by kernel_rfl) (by kernel_rfl) (fun _ _ _ h => h) (Or.inl ⟨by rfl, ?_⟩) (by assumption) ?_
    rotate_left 1
    · intro w' hSw
      try dsimp only at hSw
      go_simp
      try with_reducible rfl
    try simp only [List.getElem_toArray, List.getElem_cons_zero, List.getElem_cons_succ, Act.put, List.setIfInBounds_toArray, List.set_cons_zero, List.set_cons_succ]
    refine wpAnyH_take (i := 7) (v := ?_) rfl (by kernel_rfl) (by kernel_rfl) (by kernel_rfl) (fun _ _ _ h => h) (Or.inl ⟨by rfl, ?_⟩) (by assumption) ?_
    rotate_left 1
    · intro w' hSw
      try dsimp only at hSw
      go_simp
      try with_reducible rfl
    try simp only [List.getElem_toArray, List.getElem_cons_zero, List.getElem_cons_succ, Act.put, List.setIfInBounds_toArray, List.set_cons_zero, List.set_cons_succ]
    refine wpAnyH_take (i := 8) (v := ?_) rfl (by kernel_rfl) (by kernel_rfl) (by kernel_rfl) (fun _ _ _ h => h) (Or.inl ⟨by rfl, ?_⟩) (by assumption) ?_
    rotate_left 1
    · intro w' hSw
      try dsimp only at hSw
      go_simp
      try with_reducible rfl
    try simp only [List.getElem_toArray, List.getElem_cons_zero, List.getElem_cons_succ, Act.put, List.setIfInBounds_toArray, List.set_cons_zero, List.set_cons_succ]
    refine wpAnyH_take (i := 9) (v := ?_) rfl (by kernel_rfl) (by kernel_rfl) (by kernel_rfl) (fun _ _ _ h => h) (Or.inl ⟨by rfl, ?_⟩) (by assumption) ?_
    rotate_left 1
    · intro w' hSw
      try dsimp only at hSw
      go_simp
      try with_reducible rfl
    try simp only [List.getElem_toArray, List.getElem_cons_zero, List.getElem_cons_succ, Act.put, List.setIfInBounds_toArray, List.set_cons_zero, List.set_cons_succ]
    refine wpAnyH_take (i := 10) (v := ?_) rfl (by kernel_rfl) (by kernel_rfl) (by kernel_rfl) (fun _ _ _ h => h) (Or.inl ⟨by rfl, ?_⟩) (by assumption) ?_
    rotate_left 1
    · intro w' hSw
      try dsimp only at hSw
      go_simp
      try with_reducible rfl
    try simp only [List.getElem_toArray, List.getElem_cons_zero, List.getElem_cons_succ, Act.put, List.setIfInBounds_toArray, List.set_cons_zero, List.set_cons_succ]
    refine wpAnyH_take (i := 11) (v := ?_) rfl (by kernel_rfl) (by kernel_rfl) (by kernel_rfl) (fun _ _ _ h => h) (Or.inl ⟨by rfl, ?_⟩) (by assumption) ?_
    rotate_left 1
    · intro w' hSw
      try dsimp only at hSw
      go_simp
      try with_reducible rfl
    try simp only [List.getElem_toArray, List.getElem_cons_zero, List.getElem_cons_succ, Act.put, List.setIfInBounds_toArray, List.set_cons_zero, List.set_cons_succ]
    refine wpAnyH_take (i := 12) (v := ?_) rfl (by kernel_rfl) (by kernel_rfl) (by kernel_rfl) (fun _ _ _ h => h) (Or.inl ⟨by rfl, ?_⟩) (by assumption) ?_
    rotate_left 1
    · intro w' hSw
      try dsimp only at hSw
      go_simp
      try with_reducible rfl
    try simp only [List.getElem_toArray, List.getElem_cons_zero, List.getElem_cons_succ, Act.put, List.setIfInBounds_toArray, List.set_cons_zero, List.set_cons_succ]
    refine wpAnyH_take (i := 13) (v := ?_) rfl (by kernel_rfl) (by kernel_rfl) (by kernel_rfl) (fun _ _ _ h => h) (Or.inl ⟨by rfl, ?_⟩) (by assumption) ?_
    rotate_left 1
    · intro w' hSw
      try dsimp only at hSw
      go_simp
      try with_reducible rfl
    try simp only [List.getElem_toArray, List.getElem_cons_zero, List.getElem_cons_succ, Act.put, List.setIfInBounds_toArray, List.set_cons_zero, List.set_cons_succ]
    refine wpAnyH_done (by kernel_rfl) ?_ _
    refine NoPanic.normal ?_
    go_wp2_with fail
    go_ret
    exact ⟨rfl, HO.out⟩
theorem wnew_yes (most : Int) (strict : Bool) (w : World) (h1 : 1 ≤ most) (h2 : most ≤ 64) : Calls Try.prog 34 #[.int .i64 most, .bool strict] w fun e w' => e = .returned (.tuple #[.pointer (some ⟨w.heap.size, 0, none⟩), .int .i64 0]) ∧ WnAt (fun q => w.heap.size ≤ q) w' w.heap.size most strict (.slice none 0 0) [] ∧ Only (fun _ => False) w w' := by
  have H : Hid (WnAt (fun q => w.heap.size ≤ q) (w.alloc (.cells #[.int .i64 most, .bool strict, .slice none 0 0] 125)) w.heap.size most strict (.slice none 0 0) [] ∧ Only (fun _ => False) w (w.alloc (.cells #[.int .i64 most, .bool strict, .slice none 0 0] 125))) := Lib.hid ⟨⟨by
    rw [Go.Joins.cell_of_block (cs := #[.int .i64 most, .bool strict, .slice none 0 0]) (t := 125) (fr := (0, 0)) (by rw [heap_alloc, if_pos rfl])]; rfl, by
    rw [Go.Joins.cell_of_block (cs := #[.int .i64 most, .bool strict, .slice none 0 0]) (t := 125) (fr := (0, 0)) (by rw [heap_alloc, if_pos rfl])]; rfl, by
    rw [Go.Joins.cell_of_block (cs := #[.int .i64 most, .bool strict, .slice none 0 0]) (t := 125) (fr := (0, 0)) (by rw [heap_alloc, if_pos rfl])]; rfl, by
    have e : (w.alloc (.cells #[.int .i64 most, .bool strict, .slice none 0 0] 125)).heap[w.heap.size]? = some (.cells #[.int .i64 most, .bool strict, .slice none 0 0] 125) := by rw [heap_alloc, if_pos rfl]
    unfold World.frozen?
    dsimp only
    rw [e]
    simp, OwnK.nil _, by simp [Value.ownBlock], by simp; omega, ⟨h1, h2⟩, (fun x hx => by cases hx), Nat.le_refl _, (fun q e => by simp [Value.ownBlock] at e), fun x hx => by cases hx⟩, (Only.refl _ w).alloc _⟩
  go_enter Try.func34, Try.ntmps34
  go_wp2_with fail
  go_ret2
  exact ⟨rfl, H.out⟩
theorem wnew_no (most : Int) (strict : Bool) (w : World) (h : ¬ (1 ≤ most ∧ most ≤ 64)) : Calls Try.prog 34 #[.int .i64 most, .bool strict] w fun e w' => e = .returned (.tuple #[.pointer none, .int .i64 1]) ∧ Only (fun _ => False) w w' := by
  by_cases h1 : 1 ≤ most
  · have h2 : ¬ most ≤ 64 := fun q => h ⟨h1, q⟩
    clear h
    go_enter Try.func34, Try.ntmps34
    go_wp2_with fail
    go_ret2
    exact ⟨rfl, Only.refl _ _⟩
  · clear h
    go_enter Try.func34, Try.ntmps34
    go_wp2_with fail
    go_ret2
    exact ⟨rfl, Only.refl _ _⟩
/-- bytes.Equal and bytes.Clone of what slices read -/
theorem bytes_inj {l r : List Nat} (h1 : ∀ c ∈ l, c < 256) (h2 : ∀ c ∈ r, c < 256) (h : Lib.bytesOf (l.map fun (n : Nat) => (n : Int)) = Lib.bytesOf (r.map fun (n : Nat) => (n : Int))) : l = r := by
  have e : ∀ l : List Nat, (∀ c ∈ l, c < 256) → (Lib.bytesOf (l.map fun (n : Nat) => (n : Int))).map UInt8.toNat = l := by
    intro l
    induction l with
    | nil => intro _; rfl
    | cons x t ih =>
      intro hx
      have := ih (fun c hc => hx c (List.mem_cons_of_mem _ hc))
      have hx0 := hx x List.mem_cons_self
      unfold Lib.bytesOf at this ⊢
      simp only [List.map_cons, Int.toNat_natCast, List.cons.injEq]
      exact ⟨by simp [Nat.mod_eq_of_lt hx0], this⟩
  have := congrArg (List.map UInt8.toNat) h
  rwa [e l h1, e r h2] at this
theorem bytes_in {w : World} {a : Option Addr} {n : Nat} {l : List Nat} (h : Reads w a n l) : Lib.BytesIn w a n (l.map fun (n : Nat) => (n : Int)) := fun hn => by
  obtain ⟨b, off, rfl, hc⟩ := h.2.2.2.resolve_left (by omega)
  refine ⟨b, off, rfl, fun i hi => ?_⟩
  rw [hc i hi]
  simp [List.getD, show i < l.length by rw [h.1]; exact hi]
theorem equal_any (a b : Option Addr) (n m c d : Nat) (l r : List Nat) (w : World) (h1 : Reads w a n l) (h2 : Reads w b m r) : Calls Try.prog 72 #[.slice a n c, .slice b m d] w fun e w' => e = .returned (.bool (decide (l = r))) ∧ w = w' := by
  refine (Go.Proofs.Try.bytes_Equal_all a b n c m d (l.map fun (n : Nat) => (n : Int)) (r.map fun (n : Nat) => (n : Int)) w (by rw [List.length_map]; exact h1.1) (by rw [List.length_map]; exact h2.1) (bytes_in h1) (bytes_in h2)).mono ?_
  rintro _ w' ⟨rfl, hw⟩
  refine ⟨?_, hw.symm⟩
  congr 2
  rw [Bool.eq_iff_iff, beq_iff_eq, decide_eq_true_iff]
  exact ⟨bytes_inj h1.2.2.1 h2.2.2.1, fun e => by rw [e]⟩
def ClonedB (w : World) (n : Nat) (l : List Nat) (e : Ending) (w' : World) : Prop := ∃ a c, e = .returned (.slice a n c) ∧ Reads w' a n l ∧ Cp a n c ∧ (∀ y, a = some y → w.heap.size ≤ y.block ∧ y.block < w'.heap.size ∧ w'.frozen? y = false) ∧ Only (fun _ => False) w w'
theorem clone_any (a : Option Addr) (n c : Nat) (l : List Nat) (w : World) (h : Reads w a n l) (hn : n ≤ 65536) : Calls Try.prog 73 #[.slice a n c] w (ClonedB w n l) := by
  cases a with
  | none =>
    obtain rfl : n = 0 := by
      rcases h.2.2.2 with e | ⟨b, off, e, _⟩
      · exact e
      · cases e
    refine (Go.Proofs.Try.bytes_Clone_nil 0 c w).mono ?_
    rintro _ w' ⟨rfl, rfl⟩
    exact ⟨none, 0, rfl, h, ⟨Nat.le_refl _, by unfold maxLen; omega, fun _ => rfl⟩, (fun y e => by cases e), Only.refl _ _⟩
  | some x =>
    refine (Go.Proofs.Try.bytes_Clone_at x n c (l.map fun (n : Nat) => (n : Int)) w (by rw [List.length_map]; exact h.1) (by omega) (fun i hi => ?_)).mono ?_
    · obtain ⟨b, off, e, hc⟩ := h.2.2.2.resolve_left (by omega)
      obtain rfl : x = ⟨b, off, none⟩ := by simpa using e
      rw [add_none, hc i hi]
      simp [List.getD, show i < l.length by rw [h.1]; exact hi]
    · rintro _ w' ⟨v, rfl, hown, hnn, hb⟩
      rcases hown.2 with ⟨hv, h0⟩ | ⟨g, cap, cur, hv, hg, hh, hcc, hm, hcs, htk⟩
      · exact absurd hv hnn
      · subst hv
        refine ⟨_, cap, rfl, ⟨h.1, h.2.1, h.2.2.1, .inr ⟨g, 0, rfl, fun i hi => ?_⟩⟩, ⟨hcc, hm, fun e => by cases e⟩, (fun y e => by cases e; exact ⟨hg, heap_lt hh, hown.frozenAt 0⟩), Only.of_below hb⟩
        rw [Nat.zero_add, hown.cellAt i (by omega)]
        simp [List.getD, show i < l.length by rw [h.1]; exact hi]
end Go.Proofs.Ytpjbgcbjelcnbaa.wnd
