/- An act, done to both windows. -/
import Derived.Test.YtpjbgcbjelcnbaaWnK
import Derived.Test.YtpjbgcbjelcnbaaStrM
import Derived.Deep.CutRange
import Derived.Deep.CutBlock
namespace Go.Proofs.Ytpjbgcbjelcnbaa.wnd
open Go.RowKit mem rowz dskw
set_option linter.unusedVariables false

/-- both windows, in blocks made since b -/
def FW (b : Nat) (w : World) (p r m : Nat) (strict : Bool) (D : List Kp) : Prop := ∃ dv, DwAt w r m strict dv D ∧ WS (fun q => b ≤ q ∧ q ≠ r ∧ dv.ownBlock ≠ some q) w p (m : Int) strict (keptD m D) ∧ b ≤ r ∧ (∀ q, dv.ownBlock = some q → b ≤ q)
theorem FW.quiet {b : Nat} {w w' : World} {p r m : Nat} {strict : Bool} {D : List Kp} (h : FW b w p r m strict D) (ho : Only (fun _ => False) w w') : FW b w' p r m strict D := by
  obtain ⟨dv, h1, h2, h3⟩ := h
  exact ⟨dv, h1.quiet ho, h2.quiet ho, h3⟩
/-- what lies elsewhere may change -/
theorem FW.apart {T : Nat → Prop} {b : Nat} {w w' : World} {p r m : Nat} {strict : Bool} {D : List Kp} (h : FW b w p r m strict D) (ho : Only T w w') (hT : ∀ q, T q → w.heap.size ≤ q) : FW b w' p r m strict D := h.quiet ((Only.refl _ w).then ho (fun i hi t => by have := hT i t; omega))
/-- numbers that follow each other -/
def Ris (strict : Bool) : Int → List Kp → Prop
  | _, [] => True
  | last, x :: r => last < x.n ∧ (strict = true → x.n = last + 1) ∧ Ris strict x.n r
def lastO (last : Int) (D : List Kp) : Int := if D.length = 0 then last else (D.getD (D.length - 1) default).n
theorem lastO_cons (last : Int) (x : Kp) (r : List Kp) : lastO last (x :: r) = lastO x.n r := by
  unfold lastO
  rw [if_neg (by simp)]
  by_cases h : r.length = 0
  · rw [if_pos h]
    have : r = [] := List.eq_nil_of_length_eq_zero h
    subst this; rfl
  · rw [if_neg h]
    obtain ⟨k, hk⟩ : ∃ k, r.length = k + 1 := ⟨r.length - 1, by omega⟩
    rw [List.length_cons, hk]
    rfl
theorem Ris.snoc {strict : Bool} (x : Kp) : ∀ (D : List Kp) (last : Int), Ris strict last D → lastO last D < x.n → (strict = true → x.n = lastO last D + 1) → Ris strict last (D ++ [x]) := by
  intro D
  induction D with
  | nil => intro last _ h1 h2; exact ⟨h1, h2, trivial⟩
  | cons y r ih =>
    intro last h h1 h2
    rw [lastO_cons] at h1 h2
    exact ⟨h.1, h.2.1, ih y.n h.2.2 h1 h2⟩
theorem ris_doc {strict : Bool} {m : Nat} {D : List Kp} {x : Kp} (hm : 1 ≤ m) (h : Ris strict (-1) D) : Ris strict (-1) (docD (keptD m D) D strict x) := by
  unfold docD
  by_cases e : keepE (keptD m D) strict x = 0
  · rw [if_pos e]
    have h7 : lookE (keptD m D) strict x.n x.q = 7 := by
      unfold keepE at e
      by_cases h7 : lookE (keptD m D) strict x.n x.q = 7
      · exact h7
      · rw [if_neg h7] at e
        split at e
        · simp at e
        · rename_i h0; exact absurd e h0
    have hr := look7 h7
    have hlk : lastK (keptD m D) = lastO (-1) D := keptD_last m D hm
    unfold lookE lookR at h7
    rw [if_neg (by omega)] at h7
    unfold lookK at h7
    split at h7
    · split at h7 <;> simp at h7
    · rw [hlk] at h7
      by_cases h1 : x.n ≤ lastO (-1) D
      · rw [if_pos h1] at h7; simp at h7
      · rw [if_neg h1] at h7
        refine Ris.snoc x D (-1) h (by omega) (fun hs => ?_)
        by_cases h2 : x.n = lastO (-1) D + 1
        · exact h2
        · rw [if_pos ⟨hs, h2⟩] at h7; simp at h7
  · rw [if_neg e]; exact h
def DoneW (b p r m : Nat) (strict : Bool) (D : List Kp) (w : World) (e : Ending) (w' : World) : Prop := e = .returned (.bool true) ∧ (∃ D', D'.length ≤ D.length + 1 ∧ FW b w' p r m strict D' ∧ (Ris strict (-1) D → Ris strict (-1) D')) ∧ Only (fun q => b ≤ q) w w'
def NewB (w wx : World) (a : Option Addr) (n c : Nat) (l : List Nat) : Prop := OwnB wx (.slice a n c) l ∧ n = l.length ∧ n ≤ 300 ∧ n ≤ c ∧ ∀ y, a = some y → w.heap.size ≤ y.block ∧ y.block < wx.heap.size ∧ y.off = 0 ∧ y.spot = none
theorem NewB.reads {w wx : World} {a : Option Addr} {n c : Nat} {l : List Nat} (h : NewB w wx a n c l) : Reads wx a n l := by
  obtain ⟨ho, hn, h300, hc, hy⟩ := h
  subst hn
  rcases ho.forms with ⟨e, rfl⟩ | ⟨g, cap, e, -⟩
  · injection e with e1 e2 e3
    subst e1
    exact ⟨rfl, by unfold maxLen; simp, (fun c hc => by cases hc), .inl rfl⟩
  · rw [e] at ho
    injection e with e1 e2 e3
    subst e1
    exact ho.reads rfl
theorem NewB.only {T : Nat → Prop} {w wx w' : World} {a : Option Addr} {n c : Nat} {l : List Nat} (h : NewB w wx a n c l) (ho : Only T wx w') (hT : ∀ y, a = some y → ¬ T y.block) : NewB w w' a n c l := by
  obtain ⟨h1, h2, h3, h4, h5⟩ := h
  refine ⟨h1.only ho (fun k hk => ?_), h2, h3, h4, fun y e => ?_⟩
  · rcases h1.forms with ⟨e, _⟩ | ⟨g, cap, e, _⟩
    · rw [e] at hk; cases hk
    · injection e with e1
      subst e1
      have : g = k := by simpa [Value.ownBlock] using hk
      rw [← this]; exact hT _ rfl
  · obtain ⟨m1, m2, m3⟩ := h5 y e
    exact ⟨m1, by have := ho.size; omega, m3⟩
theorem NewB.get {w wx : World} {a : Option Addr} {n c i : Nat} {l : List Nat} (h : NewB w wx a n c l) (hi : i < n) : ∃ g k x, a = some ⟨g, 0, none⟩ ∧ wx.cell? ⟨g, i, none⟩ = some (.int .u8 ((x : Nat) : Int)) ∧ wx.frozen? ⟨g, i, none⟩ = false ∧ x < 256 ∧ NewB w (wx.setCell ⟨g, i, none⟩ (.int .u8 ((x ^^^ 3 : Nat) : Int))) a n c (l.set i (x ^^^ 3)) ∧ Only (fun q => ∃ y, a = some y ∧ q = y.block) wx (wx.setCell ⟨g, i, none⟩ (.int .u8 ((x ^^^ 3 : Nat) : Int))) ∧ k = 0 := by
  have hr := h.reads
  obtain ⟨ho, hn, h300, hc, hy⟩ := h
  obtain ⟨g, o, rfl, hcell⟩ := hr.2.2.2.resolve_left (by omega)
  obtain ⟨y1, y2, y3, -⟩ := hy _ rfl
  dsimp only at y1 y2 y3
  subst y3
  have hx : l.getD i 0 < 256 := getD_lt l hr.2.2.1 i
  have hx2 : l.getD i 0 ^^^ 3 < 256 := Nat.xor_lt_two_pow (n := 8) hx (by omega)
  refine ⟨g, 0, l.getD i 0, rfl, by have := hcell i hi; rwa [Nat.zero_add] at this, ?_, hx, ⟨OwnB.store ho hn hx2, by rw [List.length_set]; exact hn, h300, hc, fun y e => ?_⟩, (Only.refl _ wx).setCell (p := ⟨g, i, none⟩) (.inl ⟨_, rfl, rfl⟩) _, rfl⟩
  · subst hn
    exact ho.1.frozenAt i
  · injection e with e
    subst e
    exact ⟨y1, by rw [size_setCell]; exact y2, rfl, rfl⟩
/-- two new rows of bytes, apart -/
def TwoB (w wx : World) (ra : Option Addr) (n rc : Nat) (l : List Nat) (sa : Option Addr) (m sc : Nat) (l2 : List Nat) : Prop := NewB w wx ra n rc l ∧ NewB w wx sa m sc l2 ∧ ∀ y z, ra = some y → sa = some z → y.block ≠ z.block
theorem take_min300 {l : List Nat} {n : Nat} (h : l.length = n) : l.take 300 = l.take (min n 300) := by
  by_cases h5 : n ≤ 300
  · rw [Nat.min_eq_left h5, List.take_of_length_le (by omega), List.take_of_length_le (by omega)]
  · rw [Nat.min_eq_right (by omega)]
theorem ownB_lt {w : World} {v : Value} {l : List Nat} (h : OwnB w v l) : ∀ q, v.ownBlock = some q → q < w.heap.size := by
  intro q hq
  rcases h.forms with ⟨e, _⟩ | ⟨g, cap, e, hg, _⟩
  · rw [e] at hq; cases hq
  · rw [e] at hq
    have : g = q := by simpa [Value.ownBlock] using hq
    omega
theorem newB_of {w0 w wx : World} {v : Value} {l : List Nat} {n : Nat} (h : OwnB wx v l) (hn : l.length = n) (h3 : n ≤ 300) (hb : ∀ q, v.ownBlock = some q → w0.heap.size ≤ q) (hw : w.heap.size ≤ w0.heap.size) : ∃ a c, v = .slice a n c ∧ NewB w wx a n c l ∧ ∀ y, a = some y → v.ownBlock = some y.block := by
  have h0 := h
  rcases h.forms with ⟨rfl, rfl⟩ | ⟨g, cap, rfl, hg, hc, hm⟩
  · subst hn
    exact ⟨none, 0, rfl, ⟨h0, rfl, h3, by simp, fun y e => by cases e⟩, fun y e => by cases e⟩
  · subst hn
    refine ⟨_, cap, rfl, ⟨h0, rfl, h3, hc, fun y e => ?_⟩, fun y e => ?_⟩
    · injection e with e; subst e
      have := hb g (by simp [Value.ownBlock])
      exact ⟨by show w.heap.size ≤ g; omega, hg, rfl, rfl⟩
    · injection e with e; subst e; rfl
theorem Reads.head {w : World} {b o n c x : Nat} {tl : List Nat} (h : Reads w (some ⟨b, o, none⟩) (n + 1) (c :: tl)) (hx : x < 256) : Reads (w.setCell ⟨b, o, none⟩ (.int .u8 (x : Int))) (some ⟨b, o, none⟩) (n + 1) (x :: tl) := by
  obtain ⟨h1, h2, h3, h4⟩ := h
  obtain ⟨b', o', e, hc⟩ := h4.resolve_left (by omega)
  injection e with e
  injection e with e1 e2 _
  subst e1 e2
  refine ⟨by simpa using h1, h2, fun y hy => ?_, .inr ⟨b, o, rfl, fun i hi => ?_⟩⟩
  · rcases List.mem_cons.1 hy with rfl | hy
    · exact hx
    · exact h3 y (List.mem_cons_of_mem _ hy)
  · cases i with
    | zero => exact cell_same (hc 0 hi)
    | succ i =>
      rw [cell_other (fun e => by injection e with _ e _; omega)]
      exact hc (i + 1) hi
theorem Reads.cells {w w' : World} {a : Option Addr} {n : Nat} {l : List Nat} (h : Reads w a n l) (hw : ∀ q, w'.cell? q = w.cell? q) : Reads w' a n l := ⟨h.1, h.2.1, h.2.2.1, h.2.2.2.imp (fun x => x) fun ⟨b, off, e, hc⟩ => ⟨b, off, e, fun i hi => (hw _).trans (hc i hi)⟩⟩
set_option maxRecDepth 100000 in
set_option maxHeartbeats 8000000 in
theorem do_any (b p r m : Nat) (strict : Bool) (D : List Kp) (d : AcD) (w : World) (h : FW b w p r m strict D) (hin : AcIn w d) (hl : D.length ≤ 900) (hb : b ≤ w.heap.size) : Calls Try.prog 35 #[d.v, .pointer (some ⟨p, 0, none⟩), .pointer (some ⟨r, 0, none⟩)] w (DoneW b p r m strict D w) := by
  obtain ⟨keep, by_, raw, qa, qn, qc, ql, aa, an, ac, al⟩ := d
  obtain ⟨⟨hq1, hq2, hq3, hq0⟩, ⟨ha1, ha2, ha3, ha0⟩⟩ := hin
  dsimp only at hq1 hq2 hq3 hq0 ha1 ha2 ha3 ha0
  have HF := Lib.hid h
  have HLL := Lib.hid hl
  have HBW := Lib.hid hb
  obtain ⟨tq, htq⟩ : ∃ x, x = ql.take 300 := ⟨_, rfl⟩
  obtain ⟨ta, hta⟩ : ∃ x, x = al.take 300 := ⟨_, rfl⟩
  have HLA : Hid (tq.length = min qn 300) := Lib.hid (by rw [htq, List.length_take, hq1.1]; omega)
  have HLB : Hid (ta.length = min an 300) := Lib.hid (by rw [hta, List.length_take, ha1.1]; omega)
  have m1 : min (qn : Int) 300 = ((min qn 300 : Nat) : Int) := by omega
  have m2 : min (an : Int) 300 = ((min an 300 : Nat) : Int) := by omega
  have k1a : min qn 300 ≤ 300 := by omega
  have k2a : min an 300 ≤ 300 := by omega
  have k1b : min qn 300 ≤ qc := by omega
  have k2b : min an 300 ≤ ac := by omega
  have k1c : min qn 300 ≤ qn := by omega
  have k2c : min an 300 ≤ an := by omega
  have hl1 := hq1.2.1
  have hl2 := ha1.2.1
  have HT0 : Hid (Reads w qa (min qn 300) tq) := Lib.hid (by rw [htq, take_min300 hq1.1]; exact hq1.take _ k1c)
  have HT0' : Hid (Reads w aa (min an 300) ta) := Lib.hid (by rw [hta, take_min300 ha1.1]; exact ha1.take _ k2c)
  generalize min qn 300 = k1 at *
  generalize min an 300 = k2 at *
  have n1 : (k1 : Int) ≤ qc := by omega
  have n2 : (k2 : Int) ≤ ac := by omega
  unfold maxLen at hl1 hl2
  have HNU0 : Hid (∀ w', Calls Try.prog 78 #[.agg #[.bool keep, .int .i64 by_, .bool raw, .slice qa qn qc, .slice aa an ac], .int .i64 (lastK D)] w' fun e w'' => (∃ n, e = .returned (.int .i64 n)) ∧ Only (fun _ => False) w' w'') := Lib.hid (fun w' => number_any ⟨keep, by_, raw, qa, qn, qc, ql, aa, an, ac, al⟩ (lastK D) w')
  unfold AcD.v
  dsimp only
  obtain ⟨w1, hw1⟩ : ∃ zz, zz = w.alloc (.cells #[.bool keep, .int .i64 by_, .bool raw, .slice qa qn qc, .slice aa an ac] 74) := ⟨_, rfl⟩
  obtain ⟨g, hg⟩ : ∃ zz, zz = w.heap.size := ⟨_, rfl⟩
  have ec : ∀ k u, (#[.bool keep, .int .i64 by_, .bool raw, .slice qa qn qc, .slice aa an ac] : Array Value)[k]? = some u → w1.cell? ⟨g, k, none⟩ = some u := fun k u hu => by
    rw [hw1, hg, Go.Joins.cell_of_block (cs := #[.bool keep, .int .i64 by_, .bool raw, .slice qa qn qc, .slice aa an ac]) (t := 74) (fr := (0, 0)) (by rw [heap_alloc, if_pos rfl])]; exact hu
  have ho1 : Only (fun _ => False) w w1 := by rw [hw1]; exact (Only.refl _ _).alloc _
  have HO1 := Lib.hid ho1
  have HE0 : Hid (w1.cell? ⟨g, 0, none⟩ = some (.bool keep) ∧ w1.cell? ⟨g, 1, none⟩ = some (.int .i64 by_) ∧ w1.cell? ⟨g, 2, none⟩ = some (.bool raw) ∧ w1.cell? ⟨g, 3, none⟩ = some (.slice qa qn qc) ∧ w1.cell? ⟨g, 4, none⟩ = some (.slice aa an ac)) := Lib.hid ⟨ec 0 _ rfl, ec 1 _ rfl, ec 2 _ rfl, ec 3 _ rfl, ec 4 _ rfl⟩
  have HSL : Hid (∀ w', Only (fun _ => False) w1 w' → w'.cell? ⟨g, 3, none⟩ = some (.slice qa qn qc) ∧ w'.cell? ⟨g, 4, none⟩ = some (.slice aa an ac)) := Lib.hid (fun w' ho => ⟨ho.cell' HE0.out.2.2.2.1 (fun f => f), ho.cell' HE0.out.2.2.2.2 (fun f => f)⟩)
  have HT1 : Hid (∀ w', Only (fun _ => False) w1 w' → Reads w' qa k1 tq) := Lib.hid (fun w' ho => HT0.out.only (HO1.out.trans ho) (fun _ _ f => f))
  have HT2 : Hid (∀ w', Only (fun _ => False) w1 w' → Reads w' aa k2 ta) := Lib.hid (fun w' ho => HT0'.out.only (HO1.out.trans ho) (fun _ _ f => f))
  have HE : Hid (True ∧ (∀ w', Only (fun _ => False) w w' → True) ∧ True) := Lib.hid ⟨trivial, fun _ _ => trivial, trivial⟩
  clear h hl hb hq1 ha1 htq hta HT0 HT0' ho1 ec hq2 hq3 ha2 ha3
  go_enter Try.func35, Try.ntmps35
  go_upto_region 1 with fail
  simp only [← hw1, ← hg]
  clear hw1 hg
  go_cut [7, 8] from 19 to 36 (fun va vb wx => ∃ ra rc sa sc, va = .slice ra k1 rc ∧ vb = .slice sa k2 sc ∧ Hid (TwoB w wx ra k1 rc tq sa k2 sc ta) ∧ Hid (Only (fun _ => False) w1 wx))
  case first =>
    refine wp_region_noPanic ?_
    refine late.region (fun w' => w'.cell? ⟨g, 3, none⟩ = some (.slice qa qn qc) ∧ w'.cell? ⟨g, 4, none⟩ = some (.slice aa an ac)) (fun j => [].contains j) (by kernel_rfl) (HSL.out _ (Only.refl _ _).drew) (fun hHeld => ?_)
    obtain ⟨z0, hz0⟩ : ∃ x, x = w1.drew := ⟨_, rfl⟩
    rw [← hz0] at hHeld ⊢
    have hot : Hid (Only (fun _ => False) w1 z0) := Lib.hid (by rw [hz0]; exact (Only.refl _ _).drew)
    clear hz0
    refine late.take (i := 1) [2, 7, 8, 17, 18, 19] (v := ?_) rfl (by kernel_rfl) (by kernel_rfl) (by kernel_rfl) (by kernel_rfl) (fun _ _ _ h => h) (Or.inl ⟨by rfl, ?_⟩) (by assumption) ?_
    rotate_left 1
    · intro w' hSw
      try dsimp only at hSw
      go_simp
      try with_reducible rfl
    try simp only [List.getElem_toArray, List.getElem_cons_zero, List.getElem_cons_succ, Act.put, List.setIfInBounds_toArray, List.set_cons_zero, List.set_cons_succ]
    refine late.take (i := 2) [7, 8, 17, 18, 19] (v := ?_) rfl (by kernel_rfl) (by kernel_rfl) (by kernel_rfl) (by kernel_rfl) (fun _ _ _ h => h) (Or.inl ⟨by rfl, ?_⟩) (by assumption) ?_
    rotate_left 1
    · intro w' hSw
      try dsimp only at hSw
      go_simp
      try with_reducible rfl
    try simp only [List.getElem_toArray, List.getElem_cons_zero, List.getElem_cons_succ, Act.put, List.setIfInBounds_toArray, List.set_cons_zero, List.set_cons_succ]
    refine late.take (i := 3) [4, 5, 6, 7, 8, 17, 18, 19] (v := ?_) rfl (by kernel_rfl) (by kernel_rfl) (by kernel_rfl) (by kernel_rfl) (fun _ _ _ h => h) (Or.inl ⟨by rfl, ?_⟩) (by assumption) ?_
    rotate_left 1
    · intro w' hSw
      try dsimp only at hSw
      go_simp
      try with_reducible rfl
    try simp only [List.getElem_toArray, List.getElem_cons_zero, List.getElem_cons_succ, Act.put, List.setIfInBounds_toArray, List.set_cons_zero, List.set_cons_succ]
    refine late.take (i := 4) [5, 6, 7, 8, 17, 18, 19] (v := ?_) rfl (by kernel_rfl) (by kernel_rfl) (by kernel_rfl) (by kernel_rfl) (fun _ _ _ h => h) (Or.inl ⟨by rfl, ?_⟩) (by assumption) ?_
    rotate_left 1
    · intro w' hSw
      try dsimp only at hSw
      go_simp
      try with_reducible rfl
    try simp only [List.getElem_toArray, List.getElem_cons_zero, List.getElem_cons_succ, Act.put, List.setIfInBounds_toArray, List.set_cons_zero, List.set_cons_succ]
    refine late.take (i := 5) [6, 7, 8, 17, 18, 19] (v := ?_) rfl (by kernel_rfl) (by kernel_rfl) (by kernel_rfl) (by kernel_rfl) (fun _ _ _ h => h) (Or.inl ⟨by rfl, ?_⟩) (by assumption) ?_
    rotate_left 1
    · intro w' hSw
      try dsimp only at hSw
      go_simp
      try with_reducible rfl
    try simp only [List.getElem_toArray, List.getElem_cons_zero, List.getElem_cons_succ, Act.put, List.setIfInBounds_toArray, List.set_cons_zero, List.set_cons_succ]
    refine late.take (i := 6) [7, 8, 17, 18, 19] (v := ?_) rfl (by kernel_rfl) (by kernel_rfl) (by kernel_rfl) (by kernel_rfl) (fun _ _ _ h => h) (Or.inl ⟨by rfl, ?_⟩) (by assumption) ?_
    rotate_left 1
    · intro w' hSw
      try dsimp only at hSw
      go_simp
      try with_reducible rfl
    try simp only [List.getElem_toArray, List.getElem_cons_zero, List.getElem_cons_succ, Act.put, List.setIfInBounds_toArray, List.set_cons_zero, List.set_cons_succ]
    refine late.take (i := 7) [8, 17, 18, 19] (v := ?_) rfl (by kernel_rfl) (by kernel_rfl) (by kernel_rfl) (by kernel_rfl) (fun _ _ _ h => h) (Or.inl ⟨by rfl, ?_⟩) (by assumption) ?_
    rotate_left 1
    · intro w' hSw
      try dsimp only at hSw
      go_simp
      try with_reducible rfl
    try simp only [List.getElem_toArray, List.getElem_cons_zero, List.getElem_cons_succ, Act.put, List.setIfInBounds_toArray, List.set_cons_zero, List.set_cons_succ]
    refine late.take (i := 10) [11, 16, 17, 18, 19] (v := ?_) rfl (by kernel_rfl) (by kernel_rfl) (by kernel_rfl) (by kernel_rfl) (fun _ _ _ h => h) (Or.inl ⟨by rfl, ?_⟩) (by assumption) ?_
    rotate_left 1
    · intro w' hSw
      try dsimp only at hSw
      go_simp
      try with_reducible rfl
    try simp only [List.getElem_toArray, List.getElem_cons_zero, List.getElem_cons_succ, Act.put, List.setIfInBounds_toArray, List.set_cons_zero, List.set_cons_succ]
    refine late.take (i := 11) [16, 17, 18, 19] (v := ?_) rfl (by kernel_rfl) (by kernel_rfl) (by kernel_rfl) (by kernel_rfl) (fun _ _ _ h => h) (Or.inl ⟨by rfl, ?_⟩) (by assumption) ?_
    rotate_left 1
    · intro w' hSw
      try dsimp only at hSw
      go_simp
      try with_reducible rfl
    try simp only [List.getElem_toArray, List.getElem_cons_zero, List.getElem_cons_succ, Act.put, List.setIfInBounds_toArray, List.set_cons_zero, List.set_cons_succ]
    refine late.take (i := 12) [13, 14, 15, 16, 17, 18, 19] (v := ?_) rfl (by kernel_rfl) (by kernel_rfl) (by kernel_rfl) (by kernel_rfl) (fun _ _ _ h => h) (Or.inl ⟨by rfl, ?_⟩) (by assumption) ?_
    rotate_left 1
    · intro w' hSw
      try dsimp only at hSw
      go_simp
      try with_reducible rfl
    try simp only [List.getElem_toArray, List.getElem_cons_zero, List.getElem_cons_succ, Act.put, List.setIfInBounds_toArray, List.set_cons_zero, List.set_cons_succ]
    refine late.take (i := 13) [14, 15, 16, 17, 18, 19] (v := ?_) rfl (by kernel_rfl) (by kernel_rfl) (by kernel_rfl) (by kernel_rfl) (fun _ _ _ h => h) (Or.inl ⟨by rfl, ?_⟩) (by assumption) ?_
    rotate_left 1
    · intro w' hSw
      try dsimp only at hSw
      go_simp
      try with_reducible rfl
    try simp only [List.getElem_toArray, List.getElem_cons_zero, List.getElem_cons_succ, Act.put, List.setIfInBounds_toArray, List.set_cons_zero, List.set_cons_succ]
    refine late.take (i := 14) [15, 16, 17, 18, 19] (v := ?_) rfl (by kernel_rfl) (by kernel_rfl) (by kernel_rfl) (by kernel_rfl) (fun _ _ _ h => h) (Or.inl ⟨by rfl, ?_⟩) (by assumption) ?_
    rotate_left 1
    · intro w' hSw
      try dsimp only at hSw
      go_simp
      try with_reducible rfl
    try simp only [List.getElem_toArray, List.getElem_cons_zero, List.getElem_cons_succ, Act.put, List.setIfInBounds_toArray, List.set_cons_zero, List.set_cons_succ]
    refine late.take (i := 15) [16, 17, 18, 19] (v := ?_) rfl (by kernel_rfl) (by kernel_rfl) (by kernel_rfl) (by kernel_rfl) (fun _ _ _ h => h) (Or.inl ⟨by rfl, ?_⟩) (by assumption) ?_
    rotate_left 1
    · intro w' hSw
      try dsimp only at hSw
      go_simp
      try with_reducible rfl
    try simp only [List.getElem_toArray, List.getElem_cons_zero, List.getElem_cons_succ, Act.put, List.setIfInBounds_toArray, List.set_cons_zero, List.set_cons_succ]
    refine late.take (i := 16) [17, 18, 19] (v := ?_) rfl (by kernel_rfl) (by kernel_rfl) (by kernel_rfl) (by kernel_rfl) (fun _ _ _ h => h) (Or.inl ⟨by rfl, ?_⟩) (by assumption) ?_
    rotate_left 1
    · intro w' hSw
      try dsimp only at hSw
      go_simp
      try with_reducible rfl
    try simp only [List.getElem_toArray, List.getElem_cons_zero, List.getElem_cons_succ, Act.put, List.setIfInBounds_toArray, List.set_cons_zero, List.set_cons_succ]
    refine late.ready (rs := [0, 9]) (by kernel_rfl) (by simp) ?_
    refine late.Each.cons rfl (fun K hK => ?_) (late.Each.cons rfl (fun K hK => ?_) late.Each.nil)
    · try simp only [List.getElem_toArray, List.getElem_cons_zero]
      go_simp
      obtain ⟨W1, hW1⟩ : ∃ x, x = z0.alloc (.cells #[] 5) := ⟨_, rfl⟩
      obtain ⟨g1, hg1⟩ : ∃ x, x = z0.heap.size := ⟨_, rfl⟩
      rw [← hW1, ← hg1]
      have hal : Only (fun _ => False) z0 W1 := by rw [hW1]; exact (Only.refl _ _).alloc _
      have HVA : Hid (OwnB W1 (.slice (some ⟨g1, 0, none⟩) 0 0) []) := Lib.hid ⟨by rw [hW1, hg1]; exact World.ownsRow_lit z0 #[] 0 (Nat.zero_le _) (by decide) rfl, (fun c hc => by cases hc), by unfold maxLen; simp⟩
      have HBA : Hid (∀ q, (Value.slice (some ⟨g1, 0, none⟩) 0 0).ownBlock = some q → w1.heap.size ≤ q) := Lib.hid (fun q e => by
        have e' : g1 = q := by simpa [Value.ownBlock] using e
        have := hot.out.size; omega)
      replace hot : Hid (Only (fun _ => False) w1 W1) := Lib.hid (hot.out.trans hal)
      clear hW1 hg1 hal
      refine hK.out _ _ (fun _ => HSL.out _ hot.out) (fun hHeld1 => ?_)
      replace hHeld1 := hHeld1 rfl
      clear hK K
      try simp only [List.getElem_toArray, List.getElem_cons_zero, Act.put, List.setIfInBounds_toArray, List.set_cons_zero, List.set_cons_succ]
      refine late.ready (rs := [8, 9]) (by kernel_rfl) (by simp) ?_
      refine late.Each.cons rfl (fun K hK => ?_) (late.Each.cons rfl (fun K hK => ?_) late.Each.nil)
      · refine step_byte (a := { tmps := _, defers := _ }) rfl _ _ rfl (.slice (some ⟨g1, 0, none⟩) 0 0) [] rfl HVA.out qa k1 qc (tq) rfl (HT1.out _ hot.out) hq0 (by simp only [List.length_nil]; omega) ?_
        rintro v2 W2 hown hgrow hkk
        have hgo := Only.of_grown hgrow
        have hown' : OwnB W2 v2 (tq) := by simpa using hown
        replace HVA := Lib.hid hown'
        have hot2 : Hid (Only (fun _ => False) w1 W2) := Lib.hid (hot.out.then hgo (fun q hq e => by have := HBA.out q e; omega))
        replace HBA : Hid (∀ q, v2.ownBlock = some q → w1.heap.size ≤ q) := Lib.hid (fun q hq => by
          rcases hkk q hq with e | e
          · exact HBA.out q e
          · have := hot.out.size; omega)
        replace hot := hot2
        clear hown hgrow hkk hgo hown' hot2
        refine hK.out _ _ (fun _ => HSL.out _ hot.out) (fun hHeld2 => ?_)
        replace hHeld2 := hHeld2 rfl
        clear hK K
        try simp only [List.getElem_toArray, List.getElem_cons_zero, List.getElem_cons_succ, Act.put, List.setIfInBounds_toArray, List.set_cons_zero, List.set_cons_succ]
        refine late.ready (rs := [9]) (by kernel_rfl) (by simp) ?_
        refine late.Each.cons rfl (fun K hK => ?_) late.Each.nil
        try simp only [List.getElem_toArray, List.getElem_cons_zero, List.getElem_cons_succ]
        go_simp
        obtain ⟨W3, hW3⟩ : ∃ x, x = W2.alloc (.cells #[] 5) := ⟨_, rfl⟩
        obtain ⟨g3, hg3⟩ : ∃ x, x = W2.heap.size := ⟨_, rfl⟩
        rw [← hW3, ← hg3]
        have hal : Only (fun _ => False) W2 W3 := by rw [hW3]; exact (Only.refl _ _).alloc _
        have HVB : Hid (OwnB W3 (.slice (some ⟨g3, 0, none⟩) 0 0) []) := Lib.hid ⟨by rw [hW3, hg3]; exact World.ownsRow_lit W2 #[] 0 (Nat.zero_le _) (by decide) rfl, (fun c hc => by cases hc), by unfold maxLen; simp⟩
        have HBB : Hid (∀ q, (Value.slice (some ⟨g3, 0, none⟩) 0 0).ownBlock = some q → w1.heap.size ≤ q) := Lib.hid (fun q e => by
          have e' : g3 = q := by simpa [Value.ownBlock] using e
          have := hot.out.size; omega)
        have HOL := ownB_lt HVA.out
        have HD : Hid (∀ q q2, (v2 : Value).ownBlock = some q → ((.slice (some ⟨g3, 0, none⟩) 0 0) : Value).ownBlock = some q2 → q ≠ q2) := Lib.hid (fun q q2 e e2 => by
          have h1 := HOL _ e
          have e' : g3 = q2 := by simpa [Value.ownBlock] using e2
          omega)
        replace HVA := Lib.hid (HVA.out.only hal (fun _ _ f => f))
        clear HOL
        replace hot : Hid (Only (fun _ => False) w1 W3) := Lib.hid (hot.out.trans hal)
        clear hW3 hg3 hal
        refine hK.out _ _ (fun _ => HSL.out _ hot.out) (fun hHeld3 => ?_)
        replace hHeld3 := hHeld3 rfl
        clear hK K
        try simp only [List.getElem_toArray, List.getElem_cons_zero, List.getElem_cons_succ, Act.put, List.setIfInBounds_toArray, List.set_cons_zero, List.set_cons_succ]
        refine late.ready (rs := [17]) (by kernel_rfl) (by simp) ?_
        refine late.Each.cons rfl (fun K hK => ?_) late.Each.nil
        refine step_byte (a := { tmps := _, defers := _ }) rfl _ _ rfl (.slice (some ⟨g3, 0, none⟩) 0 0) [] rfl HVB.out aa k2 ac (ta) rfl (HT2.out _ hot.out) ha0 (by simp only [List.length_nil]; omega) ?_
        rintro v4 W4 hown hgrow hkk
        have hgo := Only.of_grown hgrow
        have hown' : OwnB W4 v4 (ta) := by simpa using hown
        have HOL := ownB_lt HVA.out
        have HDO := HD
        replace HD : Hid (∀ q q2, (v2 : Value).ownBlock = some q → v4.ownBlock = some q2 → q ≠ q2) := Lib.hid (fun q q2 e e2 => by
          rcases hkk q2 e2 with e3 | e3
          · exact HD.out q q2 e e3
          · have := HOL _ e; omega)
        replace HVA := Lib.hid (HVA.out.only hgo (fun k hk hs => HDO.out _ _ hk hs rfl))
        clear HOL HDO
        replace HVB := Lib.hid hown'
        have hot2 : Hid (Only (fun _ => False) w1 W4) := Lib.hid (hot.out.then hgo (fun q hq e => by have := HBB.out q e; omega))
        replace HBB : Hid (∀ q, v4.ownBlock = some q → w1.heap.size ≤ q) := Lib.hid (fun q hq => by
          rcases hkk q hq with e | e
          · exact HBB.out q e
          · have := hot.out.size; omega)
        replace hot := hot2
        clear hown hgrow hkk hgo hown' hot2
        refine hK.out _ _ (fun _ => HSL.out _ hot.out) (fun hHeld4 => ?_)
        replace hHeld4 := hHeld4 rfl
        clear hK K
        try simp only [List.getElem_toArray, List.getElem_cons_zero, List.getElem_cons_succ, Act.put, List.setIfInBounds_toArray, List.set_cons_zero, List.set_cons_succ]
        refine late.take (i := 18) [19] (v := ?_) rfl (by kernel_rfl) (by kernel_rfl) (by kernel_rfl) (by kernel_rfl) (fun _ _ _ h => h) (Or.inl ⟨by rfl, ?_⟩) (by assumption) ?_
        rotate_left 1
        · intro w' hSw
          try dsimp only at hSw
          go_simp
          try with_reducible rfl
        try simp only [List.getElem_toArray, List.getElem_cons_zero, List.getElem_cons_succ, Act.put, List.setIfInBounds_toArray, List.set_cons_zero, List.set_cons_succ]
        refine late.take (i := 19) [] (v := ?_) rfl (by kernel_rfl) (by kernel_rfl) (by kernel_rfl) (by kernel_rfl) (fun _ _ _ h => h) (Or.inl ⟨by rfl, ?_⟩) (by assumption) ?_
        rotate_left 1
        · intro w' hSw
          try dsimp only at hSw
          go_simp
          try with_reducible rfl
        try simp only [List.getElem_toArray, List.getElem_cons_zero, List.getElem_cons_succ, Act.put, List.setIfInBounds_toArray, List.set_cons_zero, List.set_cons_succ]
        refine late.done (by kernel_rfl) ?_ _
        refine NoPanic.normal ?_
        obtain ⟨ra, rc, rfl, hra, hrb⟩ := newB_of (w := w) HVA.out HLA.out k1a HBA.out HO1.out.size
        obtain ⟨sa, sc, rfl, hsa, hsb⟩ := newB_of (w := w) HVB.out HLB.out k2a HBB.out HO1.out.size
        have HEND : Hid (TwoB w W4 ra k1 rc tq sa k2 sc ta) := Lib.hid ⟨hra, hsa, fun y z e e2 => HD.out _ _ (hrb y e) (hsb z e2)⟩
        have HHO := hot
        clear hra hrb hsa hsb HVA HVB HBA HBB hot HD
        go_wp2_with fail
        go_meet
        exact ⟨ra, rc, sa, sc, rfl, rfl, HEND, HHO⟩

      · try simp only [List.getElem_toArray, List.getElem_cons_zero, List.getElem_cons_succ]
        go_simp
        obtain ⟨W5, hW5⟩ : ∃ x, x = W1.alloc (.cells #[] 5) := ⟨_, rfl⟩
        obtain ⟨g5, hg5⟩ : ∃ x, x = W1.heap.size := ⟨_, rfl⟩
        rw [← hW5, ← hg5]
        have hal : Only (fun _ => False) W1 W5 := by rw [hW5]; exact (Only.refl _ _).alloc _
        have HVB : Hid (OwnB W5 (.slice (some ⟨g5, 0, none⟩) 0 0) []) := Lib.hid ⟨by rw [hW5, hg5]; exact World.ownsRow_lit W1 #[] 0 (Nat.zero_le _) (by decide) rfl, (fun c hc => by cases hc), by unfold maxLen; simp⟩
        have HBB : Hid (∀ q, (Value.slice (some ⟨g5, 0, none⟩) 0 0).ownBlock = some q → w1.heap.size ≤ q) := Lib.hid (fun q e => by
          have e' : g5 = q := by simpa [Value.ownBlock] using e
          have := hot.out.size; omega)
        have HOL := ownB_lt HVA.out
        have HD : Hid (∀ q q2, ((.slice (some ⟨g1, 0, none⟩) 0 0) : Value).ownBlock = some q → ((.slice (some ⟨g5, 0, none⟩) 0 0) : Value).ownBlock = some q2 → q ≠ q2) := Lib.hid (fun q q2 e e2 => by
          have h1 := HOL _ e
          have e' : g5 = q2 := by simpa [Value.ownBlock] using e2
          omega)
        replace HVA := Lib.hid (HVA.out.only hal (fun _ _ f => f))
        clear HOL
        replace hot : Hid (Only (fun _ => False) w1 W5) := Lib.hid (hot.out.trans hal)
        clear hW5 hg5 hal
        refine hK.out _ _ (fun _ => HSL.out _ hot.out) (fun hHeld5 => ?_)
        replace hHeld5 := hHeld5 rfl
        clear hK K
        try simp only [List.getElem_toArray, List.getElem_cons_zero, List.getElem_cons_succ, Act.put, List.setIfInBounds_toArray, List.set_cons_zero, List.set_cons_succ]
        refine late.ready (rs := [8]) (by kernel_rfl) (by simp) ?_
        refine late.Each.cons rfl (fun K hK => ?_) late.Each.nil
        refine step_byte (a := { tmps := _, defers := _ }) rfl _ _ rfl (.slice (some ⟨g1, 0, none⟩) 0 0) [] rfl HVA.out qa k1 qc (tq) rfl (HT1.out _ hot.out) hq0 (by simp only [List.length_nil]; omega) ?_
        rintro v6 W6 hown hgrow hkk
        have hgo := Only.of_grown hgrow
        have HDO := HD
        have hown' : OwnB W6 v6 (tq) := by simpa using hown
        have HOL := ownB_lt HVB.out
        replace HD : Hid (∀ q q2, v6.ownBlock = some q → ((.slice (some ⟨g5, 0, none⟩) 0 0) : Value).ownBlock = some q2 → q ≠ q2) := Lib.hid (fun q q2 e e2 => by
          rcases hkk q e with e3 | e3
          · exact HD.out q q2 e3 e2
          · have := HOL _ e2; omega)
        replace HVB := Lib.hid (HVB.out.only hgo (fun k hk hs => HDO.out _ _ hs hk rfl))
        clear HOL HDO
        replace HVA := Lib.hid hown'
        have hot2 : Hid (Only (fun _ => False) w1 W6) := Lib.hid (hot.out.then hgo (fun q hq e => by have := HBA.out q e; omega))
        replace HBA : Hid (∀ q, v6.ownBlock = some q → w1.heap.size ≤ q) := Lib.hid (fun q hq => by
          rcases hkk q hq with e | e
          · exact HBA.out q e
          · have := hot.out.size; omega)
        replace hot := hot2
        clear hown hgrow hkk hgo hown' hot2
        refine hK.out _ _ (fun _ => HSL.out _ hot.out) (fun hHeld6 => ?_)
        replace hHeld6 := hHeld6 rfl
        clear hK K
        try simp only [List.getElem_toArray, List.getElem_cons_zero, List.getElem_cons_succ, Act.put, List.setIfInBounds_toArray, List.set_cons_zero, List.set_cons_succ]
        refine late.ready (rs := [17]) (by kernel_rfl) (by simp) ?_
        refine late.Each.cons rfl (fun K hK => ?_) late.Each.nil
        refine step_byte (a := { tmps := _, defers := _ }) rfl _ _ rfl (.slice (some ⟨g5, 0, none⟩) 0 0) [] rfl HVB.out aa k2 ac (ta) rfl (HT2.out _ hot.out) ha0 (by simp only [List.length_nil]; omega) ?_
        rintro v7 W7 hown hgrow hkk
        have hgo := Only.of_grown hgrow
        have hown' : OwnB W7 v7 (ta) := by simpa using hown
        have HOL := ownB_lt HVA.out
        have HDO := HD
        replace HD : Hid (∀ q q2, (v6 : Value).ownBlock = some q → v7.ownBlock = some q2 → q ≠ q2) := Lib.hid (fun q q2 e e2 => by
          rcases hkk q2 e2 with e3 | e3
          · exact HD.out q q2 e e3
          · have := HOL _ e; omega)
        replace HVA := Lib.hid (HVA.out.only hgo (fun k hk hs => HDO.out _ _ hk hs rfl))
        clear HOL HDO
        replace HVB := Lib.hid hown'
        have hot2 : Hid (Only (fun _ => False) w1 W7) := Lib.hid (hot.out.then hgo (fun q hq e => by have := HBB.out q e; omega))
        replace HBB : Hid (∀ q, v7.ownBlock = some q → w1.heap.size ≤ q) := Lib.hid (fun q hq => by
          rcases hkk q hq with e | e
          · exact HBB.out q e
          · have := hot.out.size; omega)
        replace hot := hot2
        clear hown hgrow hkk hgo hown' hot2
        refine hK.out _ _ (fun _ => HSL.out _ hot.out) (fun hHeld7 => ?_)
        replace hHeld7 := hHeld7 rfl
        clear hK K
        try simp only [List.getElem_toArray, List.getElem_cons_zero, List.getElem_cons_succ, Act.put, List.setIfInBounds_toArray, List.set_cons_zero, List.set_cons_succ]
        refine late.take (i := 18) [19] (v := ?_) rfl (by kernel_rfl) (by kernel_rfl) (by kernel_rfl) (by kernel_rfl) (fun _ _ _ h => h) (Or.inl ⟨by rfl, ?_⟩) (by assumption) ?_
        rotate_left 1
        · intro w' hSw
          try dsimp only at hSw
          go_simp
          try with_reducible rfl
        try simp only [List.getElem_toArray, List.getElem_cons_zero, List.getElem_cons_succ, Act.put, List.setIfInBounds_toArray, List.set_cons_zero, List.set_cons_succ]
        refine late.take (i := 19) [] (v := ?_) rfl (by kernel_rfl) (by kernel_rfl) (by kernel_rfl) (by kernel_rfl) (fun _ _ _ h => h) (Or.inl ⟨by rfl, ?_⟩) (by assumption) ?_
        rotate_left 1
        · intro w' hSw
          try dsimp only at hSw
          go_simp
          try with_reducible rfl
        try simp only [List.getElem_toArray, List.getElem_cons_zero, List.getElem_cons_succ, Act.put, List.setIfInBounds_toArray, List.set_cons_zero, List.set_cons_succ]
        refine late.done (by kernel_rfl) ?_ _
        refine NoPanic.normal ?_
        obtain ⟨ra, rc, rfl, hra, hrb⟩ := newB_of (w := w) HVA.out HLA.out k1a HBA.out HO1.out.size
        obtain ⟨sa, sc, rfl, hsa, hsb⟩ := newB_of (w := w) HVB.out HLB.out k2a HBB.out HO1.out.size
        have HEND : Hid (TwoB w W7 ra k1 rc tq sa k2 sc ta) := Lib.hid ⟨hra, hsa, fun y z e e2 => HD.out _ _ (hrb y e) (hsb z e2)⟩
        have HHO := hot
        clear hra hrb hsa hsb HVA HVB HBA HBB hot HD
        go_wp2_with fail
        go_meet
        exact ⟨ra, rc, sa, sc, rfl, rfl, HEND, HHO⟩

    · try simp only [List.getElem_toArray, List.getElem_cons_zero, List.getElem_cons_succ]
      go_simp
      obtain ⟨W8, hW8⟩ : ∃ x, x = z0.alloc (.cells #[] 5) := ⟨_, rfl⟩
      obtain ⟨g8, hg8⟩ : ∃ x, x = z0.heap.size := ⟨_, rfl⟩
      rw [← hW8, ← hg8]
      have hal : Only (fun _ => False) z0 W8 := by rw [hW8]; exact (Only.refl _ _).alloc _
      have HVB : Hid (OwnB W8 (.slice (some ⟨g8, 0, none⟩) 0 0) []) := Lib.hid ⟨by rw [hW8, hg8]; exact World.ownsRow_lit z0 #[] 0 (Nat.zero_le _) (by decide) rfl, (fun c hc => by cases hc), by unfold maxLen; simp⟩
      have HBB : Hid (∀ q, (Value.slice (some ⟨g8, 0, none⟩) 0 0).ownBlock = some q → w1.heap.size ≤ q) := Lib.hid (fun q e => by
        have e' : g8 = q := by simpa [Value.ownBlock] using e
        have := hot.out.size; omega)
      replace hot : Hid (Only (fun _ => False) w1 W8) := Lib.hid (hot.out.trans hal)
      clear hW8 hg8 hal
      refine hK.out _ _ (fun _ => HSL.out _ hot.out) (fun hHeld8 => ?_)
      replace hHeld8 := hHeld8 rfl
      clear hK K
      try simp only [List.getElem_toArray, List.getElem_cons_zero, List.getElem_cons_succ, Act.put, List.setIfInBounds_toArray, List.set_cons_zero, List.set_cons_succ]
      refine late.ready (rs := [0]) (by kernel_rfl) (by simp) ?_
      refine late.Each.cons rfl (fun K hK => ?_) late.Each.nil
      try simp only [List.getElem_toArray, List.getElem_cons_zero]
      go_simp
      obtain ⟨W9, hW9⟩ : ∃ x, x = W8.alloc (.cells #[] 5) := ⟨_, rfl⟩
      obtain ⟨g9, hg9⟩ : ∃ x, x = W8.heap.size := ⟨_, rfl⟩
      rw [← hW9, ← hg9]
      have hal : Only (fun _ => False) W8 W9 := by rw [hW9]; exact (Only.refl _ _).alloc _
      have HVA : Hid (OwnB W9 (.slice (some ⟨g9, 0, none⟩) 0 0) []) := Lib.hid ⟨by rw [hW9, hg9]; exact World.ownsRow_lit W8 #[] 0 (Nat.zero_le _) (by decide) rfl, (fun c hc => by cases hc), by unfold maxLen; simp⟩
      have HBA : Hid (∀ q, (Value.slice (some ⟨g9, 0, none⟩) 0 0).ownBlock = some q → w1.heap.size ≤ q) := Lib.hid (fun q e => by
        have e' : g9 = q := by simpa [Value.ownBlock] using e
        have := hot.out.size; omega)
      have HOL := ownB_lt HVB.out
      have HD : Hid (∀ q q2, ((.slice (some ⟨g9, 0, none⟩) 0 0) : Value).ownBlock = some q → ((.slice (some ⟨g8, 0, none⟩) 0 0) : Value).ownBlock = some q2 → q ≠ q2) := Lib.hid (fun q q2 e e2 => by
        have h1 := HOL _ e2
        have e' : g9 = q := by simpa [Value.ownBlock] using e
        omega)
      replace HVB := Lib.hid (HVB.out.only hal (fun _ _ f => f))
      clear HOL
      replace hot : Hid (Only (fun _ => False) w1 W9) := Lib.hid (hot.out.trans hal)
      clear hW9 hg9 hal
      refine hK.out _ _ (fun _ => HSL.out _ hot.out) (fun hHeld9 => ?_)
      replace hHeld9 := hHeld9 rfl
      clear hK K
      try simp only [List.getElem_toArray, List.getElem_cons_zero, Act.put, List.setIfInBounds_toArray, List.set_cons_zero, List.set_cons_succ]
      refine late.ready (rs := [8]) (by kernel_rfl) (by simp) ?_
      refine late.Each.cons rfl (fun K hK => ?_) late.Each.nil
      refine step_byte (a := { tmps := _, defers := _ }) rfl _ _ rfl (.slice (some ⟨g9, 0, none⟩) 0 0) [] rfl HVA.out qa k1 qc (tq) rfl (HT1.out _ hot.out) hq0 (by simp only [List.length_nil]; omega) ?_
      rintro v10 W10 hown hgrow hkk
      have hgo := Only.of_grown hgrow
      have HDO := HD
      have hown' : OwnB W10 v10 (tq) := by simpa using hown
      have HOL := ownB_lt HVB.out
      replace HD : Hid (∀ q q2, v10.ownBlock = some q → ((.slice (some ⟨g8, 0, none⟩) 0 0) : Value).ownBlock = some q2 → q ≠ q2) := Lib.hid (fun q q2 e e2 => by
        rcases hkk q e with e3 | e3
        · exact HD.out q q2 e3 e2
        · have := HOL _ e2; omega)
      replace HVB := Lib.hid (HVB.out.only hgo (fun k hk hs => HDO.out _ _ hs hk rfl))
      clear HOL HDO
      replace HVA := Lib.hid hown'
      have hot2 : Hid (Only (fun _ => False) w1 W10) := Lib.hid (hot.out.then hgo (fun q hq e => by have := HBA.out q e; omega))
      replace HBA : Hid (∀ q, v10.ownBlock = some q → w1.heap.size ≤ q) := Lib.hid (fun q hq => by
        rcases hkk q hq with e | e
        · exact HBA.out q e
        · have := hot.out.size; omega)
      replace hot := hot2
      clear hown hgrow hkk hgo hown' hot2
      refine hK.out _ _ (fun _ => HSL.out _ hot.out) (fun hHeld10 => ?_)
      replace hHeld10 := hHeld10 rfl
      clear hK K
      try simp only [List.getElem_toArray, List.getElem_cons_zero, List.getElem_cons_succ, Act.put, List.setIfInBounds_toArray, List.set_cons_zero, List.set_cons_succ]
      refine late.ready (rs := [17]) (by kernel_rfl) (by simp) ?_
      refine late.Each.cons rfl (fun K hK => ?_) late.Each.nil
      refine step_byte (a := { tmps := _, defers := _ }) rfl _ _ rfl (.slice (some ⟨g8, 0, none⟩) 0 0) [] rfl HVB.out aa k2 ac (ta) rfl (HT2.out _ hot.out) ha0 (by simp only [List.length_nil]; omega) ?_
      rintro v11 W11 hown hgrow hkk
      have hgo := Only.of_grown hgrow
      have hown' : OwnB W11 v11 (ta) := by simpa using hown
      have HOL := ownB_lt HVA.out
      have HDO := HD
      replace HD : Hid (∀ q q2, (v10 : Value).ownBlock = some q → v11.ownBlock = some q2 → q ≠ q2) := Lib.hid (fun q q2 e e2 => by
        rcases hkk q2 e2 with e3 | e3
        · exact HD.out q q2 e e3
        · have := HOL _ e; omega)
      replace HVA := Lib.hid (HVA.out.only hgo (fun k hk hs => HDO.out _ _ hk hs rfl))
      clear HOL HDO
      replace HVB := Lib.hid hown'
      have hot2 : Hid (Only (fun _ => False) w1 W11) := Lib.hid (hot.out.then hgo (fun q hq e => by have := HBB.out q e; omega))
      replace HBB : Hid (∀ q, v11.ownBlock = some q → w1.heap.size ≤ q) := Lib.hid (fun q hq => by
        rcases hkk q hq with e | e
        · exact HBB.out q e
        · have := hot.out.size; omega)
      replace hot := hot2
      clear hown hgrow hkk hgo hown' hot2
      refine hK.out _ _ (fun _ => HSL.out _ hot.out) (fun hHeld11 => ?_)
      replace hHeld11 := hHeld11 rfl
      clear hK K
      try simp only [List.getElem_toArray, List.getElem_cons_zero, List.getElem_cons_succ, Act.put, List.setIfInBounds_toArray, List.set_cons_zero, List.set_cons_succ]
      refine late.take (i := 18) [19] (v := ?_) rfl (by kernel_rfl) (by kernel_rfl) (by kernel_rfl) (by kernel_rfl) (fun _ _ _ h => h) (Or.inl ⟨by rfl, ?_⟩) (by assumption) ?_
      rotate_left 1
      · intro w' hSw
        try dsimp only at hSw
        go_simp
        try with_reducible rfl
      try simp only [List.getElem_toArray, List.getElem_cons_zero, List.getElem_cons_succ, Act.put, List.setIfInBounds_toArray, List.set_cons_zero, List.set_cons_succ]
      refine late.take (i := 19) [] (v := ?_) rfl (by kernel_rfl) (by kernel_rfl) (by kernel_rfl) (by kernel_rfl) (fun _ _ _ h => h) (Or.inl ⟨by rfl, ?_⟩) (by assumption) ?_
      rotate_left 1
      · intro w' hSw
        try dsimp only at hSw
        go_simp
        try with_reducible rfl
      try simp only [List.getElem_toArray, List.getElem_cons_zero, List.getElem_cons_succ, Act.put, List.setIfInBounds_toArray, List.set_cons_zero, List.set_cons_succ]
      refine late.done (by kernel_rfl) ?_ _
      refine NoPanic.normal ?_
      obtain ⟨ra, rc, rfl, hra, hrb⟩ := newB_of (w := w) HVA.out HLA.out k1a HBA.out HO1.out.size
      obtain ⟨sa, sc, rfl, hsa, hsb⟩ := newB_of (w := w) HVB.out HLB.out k2a HBB.out HO1.out.size
      have HEND : Hid (TwoB w W11 ra k1 rc tq sa k2 sc ta) := Lib.hid ⟨hra, hsa, fun y z e e2 => HD.out _ _ (hrb y e) (hsb z e2)⟩
      have HHO := hot
      clear hra hrb hsa hsb HVA HVB HBA HBB hot HD
      go_wp2_with fail
      go_meet
      exact ⟨ra, rc, sa, sc, rfl, rfl, HEND, HHO⟩
  case rest =>
    obtain ⟨ra, rc, sa, sc, rfl, rfl, HTB, HOX⟩ := hcut
    rename World => w2
    have HO2 := Lib.hid (HO1.out.trans HOX.out)
    have HSL2 : Hid (∀ w', Only (fun _ => False) w2 w' → w'.cell? ⟨g, 0, none⟩ = some (.bool keep) ∧ w'.cell? ⟨g, 1, none⟩ = some (.int .i64 by_) ∧ w'.cell? ⟨g, 2, none⟩ = some (.bool raw) ∧ w'.cell? ⟨g, 3, none⟩ = some (.slice qa qn qc) ∧ w'.cell? ⟨g, 4, none⟩ = some (.slice aa an ac)) := Lib.hid (fun w' ho => ⟨(HOX.out.trans ho).cell' HE0.out.1 (fun f => f), (HOX.out.trans ho).cell' HE0.out.2.1 (fun f => f), (HOX.out.trans ho).cell' HE0.out.2.2.1 (fun f => f), (HOX.out.trans ho).cell' HE0.out.2.2.2.1 (fun f => f), (HOX.out.trans ho).cell' HE0.out.2.2.2.2 (fun f => f)⟩)
    have HE : Hid (∀ w', Only (fun _ => False) w2 w' → w'.cell? ⟨g, 0, none⟩ = some (.bool keep)) := Lib.hid (fun w' ho => (HSL2.out w' ho).1)
    have HRL : Hid (∀ w', Only (fun _ => False) w2 w' → _) := Lib.hid (fun w' (ho : Only (fun _ => False) w2 w') => (by obtain ⟨dv, h1, h2⟩ := HF.out; exact rlast_any r m strict dv D w' (h1.quiet (HO2.out.trans ho)) : Calls Try.prog 36 #[.pointer (some ⟨r, 0, none⟩)] w' fun e w'' => e = .returned (.int .i64 (lastK D)) ∧ Only (fun _ => False) w' w''))
    have HNU := HNU0
    clear HSL HT1 HT2 HOX HO1 HNU0 HE0 hq0 ha0 m1 m2
    go_upto_region 2 with fail
    refine wp_region_noPanic ?_
    refine late.region (fun w' => w'.cell? ⟨g, 0, none⟩ = some (.bool keep) ∧ w'.cell? ⟨g, 1, none⟩ = some (.int .i64 by_) ∧ w'.cell? ⟨g, 2, none⟩ = some (.bool raw) ∧ w'.cell? ⟨g, 3, none⟩ = some (.slice qa qn qc) ∧ w'.cell? ⟨g, 4, none⟩ = some (.slice aa an ac)) (fun j => [].contains j) (by kernel_rfl) (HSL2.out _ (Only.refl _ _).drew) (fun hHeld => ?_)
    obtain ⟨z0, hz0⟩ : ∃ x, x = w2.drew := ⟨_, rfl⟩
    rw [← hz0] at hHeld ⊢
    have hot : Hid (Only (fun _ => False) w2 z0) := Lib.hid (by rw [hz0]; exact (Only.refl _ _).drew)
    clear hz0
    refine late.take (i := 0) [3, 4] (v := ?_) rfl (by kernel_rfl) (by kernel_rfl) (by kernel_rfl) (by kernel_rfl) (fun _ _ _ h => h) (Or.inl ⟨by rfl, ?_⟩) (by assumption) ?_
    rotate_left 1
    · intro w' hSw
      try dsimp only at hSw
      go_simp
      try with_reducible rfl
    try simp only [List.getElem_toArray, List.getElem_cons_zero, Act.put, List.setIfInBounds_toArray, List.set_cons_zero, List.set_cons_succ]
    refine late.take (i := 1) [2, 3, 4] (v := ?_) rfl (by kernel_rfl) (by kernel_rfl) (by kernel_rfl) (by kernel_rfl) (fun _ _ _ h => h) (Or.inl ⟨by rfl, ?_⟩) (by assumption) ?_
    rotate_left 1
    · intro w' hSw
      try dsimp only at hSw
      go_simp
      try with_reducible rfl
    try simp only [List.getElem_toArray, List.getElem_cons_zero, List.getElem_cons_succ, Act.put, List.setIfInBounds_toArray, List.set_cons_zero, List.set_cons_succ]
    refine late.ready (rs := [2]) (by kernel_rfl) (by simp) ?_
    refine late.Each.cons rfl (fun K hK => ?_) late.Each.nil
    try simp only [List.getElem_toArray, List.getElem_cons_zero, List.getElem_cons_succ]
    go_simp
    go_at_call 36
    with_reducible refine (HRL.out _ hot.out).mono ?_
    rintro _ W1 ⟨rfl, ho⟩
    replace hot := Lib.hid (hot.out.trans ho)
    clear ho
    try dsimp only
    refine hK.out _ _ (fun _ => HSL2.out _ hot.out) (fun hHeld1 => ?_)
    replace hHeld1 := hHeld1 rfl
    clear hK K
    try simp only [List.getElem_toArray, List.getElem_cons_zero, List.getElem_cons_succ, Act.put, List.setIfInBounds_toArray, List.set_cons_zero, List.set_cons_succ]
    refine late.ready (rs := [3]) (by kernel_rfl) (by simp) ?_
    refine late.Each.cons rfl (fun K hK => ?_) late.Each.nil
    try simp only [List.getElem_toArray, List.getElem_cons_zero, List.getElem_cons_succ]
    go_simp
    go_at_call 78
    with_reducible refine (HNU.out _).mono ?_
    rintro _ W2 ⟨⟨n, rfl⟩, ho⟩
    replace hot := Lib.hid (hot.out.trans ho)
    clear ho
    try dsimp only
    refine hK.out _ _ (fun _ => HSL2.out _ hot.out) (fun hHeld2 => ?_)
    replace hHeld2 := hHeld2 rfl
    clear hK K
    try simp only [List.getElem_toArray, List.getElem_cons_zero, List.getElem_cons_succ, Act.put, List.setIfInBounds_toArray, List.set_cons_zero, List.set_cons_succ]
    refine late.take (i := 4) [] (v := ?_) rfl (by kernel_rfl) (by kernel_rfl) (by kernel_rfl) (by kernel_rfl) (fun _ _ _ h => h) (Or.inl ⟨by rfl, ?_⟩) (by assumption) ?_
    rotate_left 1
    · intro w' hSw
      try dsimp only at hSw
      go_simp
      try with_reducible rfl
    try simp only [List.getElem_toArray, List.getElem_cons_zero, List.getElem_cons_succ, Act.put, List.setIfInBounds_toArray, List.set_cons_zero, List.set_cons_succ]
    refine late.done (by kernel_rfl) ?_ _
    refine NoPanic.normal ?_
    have HO2x := hot
    have HO3 := Lib.hid (HO2.out.trans hot.out)
    have HTB3 : Hid (TwoB w W2 ra k1 rc tq sa k2 sc ta) := Lib.hid ⟨HTB.out.1.only hot.out (fun _ _ f => f), HTB.out.2.1.only hot.out (fun _ _ f => f), HTB.out.2.2⟩
    have hcv1 : ∀ w', (∀ q, w'.cell? q = W2.cell? q) → (convert 31 9 (.slice ra k1 rc)).run Try.prog w' = .ok (.string (strN tq)) w' := fun w' hw => conv_reads (Reads.cells HTB3.out.1.reads hw) rc
    have hcv2 : ∀ w', (∀ q, w'.cell? q = W2.cell? q) → (convert 31 9 (.slice sa k2 sc)).run Try.prog w' = .ok (.string (strN ta)) w' := fun w' hw => conv_reads (Reads.cells HTB3.out.2.1.reads hw) sc
    clear hHeld hot HTB HO2 HSL2 HRL HNU
    go_upto_region 3 with fail
    refine wp_region_noPanic ?_
    refine late.region (fun w' => ∀ q, w'.cell? q = W2.cell? q) (fun j => [].contains j) (by kernel_rfl) (fun q => by simp) (fun hHeld => ?_)
    refine late.take (i := 0) [1, 4, 5] (v := ?_) rfl (by kernel_rfl) (by kernel_rfl) (by kernel_rfl) (by kernel_rfl) (fun _ _ _ h => h) (Or.inl ⟨by rfl, ?_⟩) (by assumption) ?_
    rotate_left 1
    · intro w' hSw
      try dsimp only at hSw
      go_simp
      try with_reducible rfl
    try simp only [List.getElem_toArray, List.getElem_cons_zero, Act.put, List.setIfInBounds_toArray, List.set_cons_zero, List.set_cons_succ]
    refine late.take (i := 1) [4, 5] (v := ?_) rfl (by kernel_rfl) (by kernel_rfl) (by kernel_rfl) (by kernel_rfl) (fun _ _ _ h => h) (Or.inl ⟨by rfl, ?_⟩) (by assumption) ?_
    rotate_left 1
    · intro w' hSw
      try dsimp only at hSw
      go_simp
      try with_reducible rfl
    try simp only [List.getElem_toArray, List.getElem_cons_zero, List.getElem_cons_succ, Act.put, List.setIfInBounds_toArray, List.set_cons_zero, List.set_cons_succ]
    refine late.take (i := 2) [3, 5] (v := ?_) rfl (by kernel_rfl) (by kernel_rfl) (by kernel_rfl) (by kernel_rfl) (fun _ _ _ h => h) (Or.inl ⟨by rfl, ?_⟩) (by assumption) ?_
    rotate_left 1
    · intro w' hSw
      try dsimp only at hSw
      go_simp
      try with_reducible rfl
    try simp only [List.getElem_toArray, List.getElem_cons_zero, List.getElem_cons_succ, Act.put, List.setIfInBounds_toArray, List.set_cons_zero, List.set_cons_succ]
    refine late.take (i := 3) [5] (v := ?_) rfl (by kernel_rfl) (by kernel_rfl) (by kernel_rfl) (by kernel_rfl) (fun _ _ _ h => h) (Or.inl ⟨by rfl, ?_⟩) (by assumption) ?_
    rotate_left 1
    · intro w' hSw
      try dsimp only at hSw
      go_simp
      try with_reducible rfl
    try simp only [List.getElem_toArray, List.getElem_cons_zero, List.getElem_cons_succ, Act.put, List.setIfInBounds_toArray, List.set_cons_zero, List.set_cons_succ]
    refine late.take (i := 4) [5] (v := ?_) rfl (by kernel_rfl) (by kernel_rfl) (by kernel_rfl) (by kernel_rfl) (fun _ _ _ h => h) (Or.inl ⟨by rfl, ?_⟩) (by assumption) ?_
    rotate_left 1
    · intro w' hSw
      try dsimp only at hSw
      go_simp
      try with_reducible rfl
    try simp only [List.getElem_toArray, List.getElem_cons_zero, List.getElem_cons_succ, Act.put, List.setIfInBounds_toArray, List.set_cons_zero, List.set_cons_succ]
    refine late.take (i := 5) [] (v := ?_) rfl (by kernel_rfl) (by kernel_rfl) (by kernel_rfl) (by kernel_rfl) (fun _ _ _ h => h) (Or.inl ⟨by rfl, ?_⟩) (by assumption) ?_
    rotate_left 1
    · intro w' hSw
      try dsimp only at hSw
      go_simp
      try with_reducible rfl
    try simp only [List.getElem_toArray, List.getElem_cons_zero, List.getElem_cons_succ, Act.put, List.setIfInBounds_toArray, List.set_cons_zero, List.set_cons_succ]
    refine late.done (by kernel_rfl) ?_ _
    refine NoPanic.normal ?_
    obtain ⟨w4, hw4⟩ : ∃ x, x = W2.drew := ⟨_, rfl⟩
    have ho4 : Only (fun _ => False) W2 w4 := by rw [hw4]; exact (Only.refl _ _).drew
    rw [← hw4]
    have HO4 := Lib.hid (HO3.out.trans ho4)
    have HTB4 : Hid (TwoB w w4 ra k1 rc tq sa k2 sc ta) := Lib.hid ⟨HTB3.out.1.only ho4 (fun _ _ f => f), HTB3.out.2.1.only ho4 (fun _ _ f => f), HTB3.out.2.2⟩
    have e40 := HE.out w4 (HO2x.out.trans ho4)
    clear hw4 ho4 hcv1 hcv2 HO3 HTB3 HO2x HE
    cases keep
    · obtain ⟨dv, hd, hws, hbr, hdv⟩ := HF.out
      have HDW := Lib.hid (hd.quiet HO4.out)
      have HLK := Lib.hid (ws_look (hws.quiet HO4.out) n ra k1 rc tq HTB4.out.1.reads)
      have HRK : Hid (∀ w', Only (fun _ => False) w4 w' → _) := Lib.hid (fun w' (ho : Only (fun _ => False) w4 w') => rlook_any r m strict dv D n tq w' (HDW.out.quiet ho) HTB4.out.1.1.2.1)
      have hak := lookK_ok m hd.ok strict n tq
      generalize lookE (keptD m D) strict n tq = E at *
      generalize lookA (keptD m D) strict n tq = A at *
      have HAK := Lib.hid hak
      clear hd hws hbr hdv hak
      go_wp2_with fail
      refine HLK.out.mono ?_
      rintro _ w5 ⟨la, ln, lc, rfl, hlr, hlc, hlb, ho⟩
      have HO5 := Lib.hid (HO4.out.trans ho)
      have HLR := Lib.hid hlr
      have HLB := Lib.hid hlb
      have HR5 := Lib.hid (HRK.out w5 ho)
      clear ho HLK HRK hlr hlb hlc e40
      go_wp2_with fail
      refine HR5.out.mono ?_
      rintro _ w6 ⟨rfl, ho⟩
      have HO6 := Lib.hid (HO5.out.trans ho)
      have HLR6 := Lib.hid (HLR.out.only ho (fun _ _ f => f))
      have HFZ : Hid (∀ y, la = some y → w6.frozen? y = false ∧ w.heap.size ≤ y.block) := Lib.hid (fun y e => ⟨(ho.frozen (HLB.out y e).2.1 (fun f => f)).trans (HLB.out y e).2.2, by have := (HLB.out y e).1; have := HO4.out.size; omega⟩)
      clear ho HR5 HLR HLB HO5
      have hsA : (strN A).size = A.length := by simp [strN, ByteArray.size]
      have hln := HLR6.out.1
      cases A with
      | nil =>
        have hln0 : ln = 0 := by simpa using hln.symm
        subst hln0
        have hcv := conv_reads HLR6.out lc
        have hself : ((strN []).toList == (strN []).toList) = true := by simp
        clear hln hsA
        go_wp2_with fail
        go_ret
        exact ⟨by simp, ⟨D, by omega, HF.out.quiet HO6.out, fun h => h⟩, HO6.out.mono (fun _ _ f => f.elim)⟩
      | cons c tl =>
        have hln0 : ln = tl.length + 1 := by simpa using hln.symm
        subst hln0
        obtain ⟨gl, ol, rfl, hcell⟩ := HLR6.out.2.2.2.resolve_left (by omega)
        have hc0 := hcell 0 (by omega)
        have hf0 := (HFZ.out _ rfl).1
        have hc256 : c < 256 := HAK.out.1 c List.mem_cons_self
        have htl : tl.length + 1 ≤ 65536 := by have := HAK.out.2; simpa using this
        have hno : ¬ (9223372036854775807 < (strN [c ^^^ 1]).size + (strN tl).size) := by rw [strN_size, strN_size, List.length_singleton]; omega
        have hx : bits .xor .u8 (c : Int) 1 = ((c ^^^ 1 : Nat) : Int) := u8_xor_nat c 1 hc256 (by omega)
        have hsz : (0 : Int) < (tl.length : Int) + 1 := by omega
        have hix : ∀ h : 0 < (strN (c :: tl)).size, ((strN (c :: tl))[0]'h).toNat = c := strN_head c tl hc256
        have hext : (strN (c :: tl)).extract 1 (tl.length + 1) = strN tl := strN_drop (c :: tl) 1 _ rfl
        have hcat : strN [c ^^^ 1] ++ strN tl = strN ((c ^^^ 1) :: tl) := strN_append _ _
        have h1le : (1 : Int) ≤ (tl.length : Int) + 1 := by omega
        have hg0 : (List.getD (c :: tl) 0 0) = c := rfl
        rw [hg0, Nat.add_zero] at hc0
        clear hcell hln
        go_upto_region 9 with fail
        obtain ⟨w7, hw7⟩ : ∃ x, x = w6.setCell ⟨gl, ol, none⟩ (.int .u8 ((c ^^^ 1 : Nat) : Int)) := ⟨_, rfl⟩
        rw [← hw7]
        have HW7 := Lib.hid hw7
        have HX256 : Hid (c ^^^ 1 < 256) := Lib.hid (Nat.xor_lt_two_pow (n := 8) hc256 (by omega))
        clear hw7 hc0 hf0
        refine wp_region_noPanic ?_
        refine late.region (fun _ => True) (fun j => [].contains j) (by kernel_rfl) (trivial) (fun hHeld => ?_)
        obtain ⟨z0, hz0⟩ : ∃ x, x = w7.drew := ⟨_, rfl⟩
        rw [← hz0]
        have hot : Hid (Only (fun _ => False) w7 z0) := Lib.hid (by rw [hz0]; exact (Only.refl _ _).drew)
        clear hz0
        refine late.take (i := 0) [1, 2, 3, 4, 7, 8] (v := ?_) rfl (by kernel_rfl) (by kernel_rfl) (by kernel_rfl) (by kernel_rfl) (fun _ _ _ h => h) (Or.inl ⟨by rfl, ?_⟩) (by assumption) ?_
        rotate_left 1
        · intro w' hSw
          try dsimp only at hSw
          go_simp
          try with_reducible rfl
        try simp only [List.getElem_toArray, List.getElem_cons_zero, Act.put, List.setIfInBounds_toArray, List.set_cons_zero, List.set_cons_succ]
        refine late.take (i := 1) [2, 3, 4, 7, 8] (v := ?_) rfl (by kernel_rfl) (by kernel_rfl) (by kernel_rfl) (by kernel_rfl) (fun _ _ _ h => h) (Or.inl ⟨by rfl, ?_⟩) (by assumption) ?_
        rotate_left 1
        · intro w' hSw
          try dsimp only at hSw
          go_simp
          try with_reducible rfl
        try simp only [List.getElem_toArray, List.getElem_cons_zero, List.getElem_cons_succ, Act.put, List.setIfInBounds_toArray, List.set_cons_zero, List.set_cons_succ]
        refine late.take (i := 2) [3, 4, 7, 8] (v := ?_) rfl (by kernel_rfl) (by kernel_rfl) (by kernel_rfl) (by kernel_rfl) (fun _ _ _ h => h) (Or.inl ⟨by rfl, ?_⟩) (by assumption) ?_
        rotate_left 1
        · intro w' hSw
          try dsimp only at hSw
          go_simp
          try with_reducible rfl
        try simp only [List.getElem_toArray, List.getElem_cons_zero, List.getElem_cons_succ, Act.put, List.setIfInBounds_toArray, List.set_cons_zero, List.set_cons_succ]
        refine late.take (i := 5) [6, 7, 8] (v := ?_) rfl (by kernel_rfl) (by kernel_rfl) (by kernel_rfl) (by kernel_rfl) (fun _ _ _ h => h) (Or.inl ⟨by rfl, ?_⟩) (by assumption) ?_
        rotate_left 1
        · intro w' hSw
          try dsimp only at hSw
          go_simp
          try with_reducible rfl
        try simp only [List.getElem_toArray, List.getElem_cons_zero, List.getElem_cons_succ, Act.put, List.setIfInBounds_toArray, List.set_cons_zero, List.set_cons_succ]
        refine late.take (i := 6) [7, 8] (v := ?_) rfl (by kernel_rfl) (by kernel_rfl) (by kernel_rfl) (by kernel_rfl) (fun _ _ _ h => h) (Or.inl ⟨by rfl, ?_⟩) (by assumption) ?_
        rotate_left 1
        · intro w' hSw
          try dsimp only at hSw
          go_simp
          try with_reducible rfl
        try simp only [List.getElem_toArray, List.getElem_cons_zero, List.getElem_cons_succ, Act.put, List.setIfInBounds_toArray, List.set_cons_zero, List.set_cons_succ]
        refine late.ready (rs := [3]) (by kernel_rfl) (by simp) ?_
        refine late.Each.cons rfl (fun K hK => ?_) late.Each.nil
        try simp only [List.getElem_toArray, List.getElem_cons_zero, List.getElem_cons_succ]
        go_simp
        obtain ⟨w8, hw8⟩ : ∃ x, x = z0.alloc (.cells #[.int .u8 ((c ^^^ 1 : Nat) : Int)] 5) := ⟨_, rfl⟩
        obtain ⟨g8, hg8⟩ : ∃ x, x = z0.heap.size := ⟨_, rfl⟩
        rw [← hw8, ← hg8]
        have hr8 : Reads w8 (some ⟨g8, 0, none⟩) 1 [c ^^^ 1] := by rw [hw8]; exact one_byte hg8 _ HX256.out
        have hcv8 := conv_reads hr8 1
        replace hot := Lib.hid (hot.out.alloc (.cells #[.int .u8 ((c ^^^ 1 : Nat) : Int)] 5))
        rw [← hw8] at hot
        clear hw8 hg8 hr8
        refine hK.out _ _ (fun _ => trivial) (fun hHeld1 => ?_)
        replace hHeld1 := hHeld1 rfl
        clear hK K
        try simp only [List.getElem_toArray, List.getElem_cons_zero, List.getElem_cons_succ, Act.put, List.setIfInBounds_toArray, List.set_cons_zero, List.set_cons_succ]
        refine late.ready (rs := [4]) (by kernel_rfl) (by simp) ?_
        refine late.Each.cons rfl (fun K hK => ?_) late.Each.nil
        try simp only [List.getElem_toArray, List.getElem_cons_zero, List.getElem_cons_succ]
        go_simp
        refine hK.out _ _ (fun _ => trivial) (fun hHeld2 => ?_)
        replace hHeld2 := hHeld2 rfl
        clear hK K
        try simp only [List.getElem_toArray, List.getElem_cons_zero, List.getElem_cons_succ, Act.put, List.setIfInBounds_toArray, List.set_cons_zero, List.set_cons_succ]
        refine late.take (i := 7) [8] (v := ?_) rfl (by kernel_rfl) (by kernel_rfl) (by kernel_rfl) (by kernel_rfl) (fun _ _ _ h => h) (Or.inl ⟨by rfl, ?_⟩) (by assumption) ?_
        rotate_left 1
        · intro w' hSw
          try dsimp only at hSw
          go_simp
          try with_reducible rfl
        try simp only [List.getElem_toArray, List.getElem_cons_zero, List.getElem_cons_succ, Act.put, List.setIfInBounds_toArray, List.set_cons_zero, List.set_cons_succ]
        refine late.take (i := 8) [] (v := ?_) rfl (by kernel_rfl) (by kernel_rfl) (by kernel_rfl) (by kernel_rfl) (fun _ _ _ h => h) (Or.inl ⟨by rfl, ?_⟩) (by assumption) ?_
        rotate_left 1
        · intro w' hSw
          try dsimp only at hSw
          go_simp
          try with_reducible rfl
        try simp only [List.getElem_toArray, List.getElem_cons_zero, List.getElem_cons_succ, Act.put, List.setIfInBounds_toArray, List.set_cons_zero, List.set_cons_succ]
        refine late.done (by kernel_rfl) ?_ _
        refine NoPanic.normal ?_
        have HR8 : Hid (Reads w8 (some ⟨gl, ol, none⟩) (tl.length + 1) ((c ^^^ 1) :: tl)) := Lib.hid ((by rw [HW7.out]; exact Reads.head HLR6.out HX256.out : Reads w7 (some ⟨gl, ol, none⟩) (tl.length + 1) ((c ^^^ 1) :: tl)).only hot.out (fun _ _ f => f))
        have HO8 : Hid (Only (fun _ => False) w w8) := Lib.hid ((by rw [HW7.out]; exact HO6.out.setCell (p := ⟨gl, ol, none⟩) (.inr (HFZ.out _ rfl).2) _ : Only (fun _ => False) w w7).trans hot.out)
        have hcv := conv_reads HR8.out lc
        have hself : ((strN ((c ^^^ 1) :: tl)).toList == (strN ((c ^^^ 1) :: tl)).toList) = true := by simp
        clear hot hcv8 hno htl h1le hcat hext hix hx hsA HR8
        go_wp2_with fail
        go_ret
        exact ⟨by simp, ⟨D, by omega, HF.out.quiet HO8.out, fun h => h⟩, HO8.out.mono (fun _ _ f => f.elim)⟩
    · obtain ⟨dv, hd, hws, hbr, hdv⟩ := HF.out
      have HBR := Lib.hid hbr
      have HDV := Lib.hid hdv
      have HDK := Lib.hid hd
      have hrl := hd.lt
      have hdl : ∀ q, dv.ownBlock = some q → q < w.heap.size := fun q e => hd.own.lt e
      have HRL := Lib.hid hrl
      have HDL := Lib.hid hdl
      have hws1 : WS (fun q => (b ≤ q ∧ q ≠ r ∧ dv.ownBlock ≠ some q) ∧ q < w.heap.size) w p (m : Int) strict (keptD m D) := hws.mono (fun q hq s => ⟨s, hq⟩)
      have HKE := Lib.hid (ws_keep (hws1.quiet HO4.out) n ra k1 rc tq sa k2 sc ta HTB4.out.1.reads HTB4.out.2.1.reads)
      have hke0 : keepE (keptD m D) strict ⟨n, tq, ta⟩ = 0 → keepR (keptD m D) (m : Int) strict ⟨n, tq, ta⟩ = keptD m (docD (keptD m D) D strict ⟨n, tq, ta⟩) := fun e => by
        unfold keepR docD
        rw [if_pos e, if_pos e, keptD_more m D _ HDK.out.mo.1]
      have hke1 : keepR (keptD m D) (m : Int) strict ⟨n, tq, ta⟩ = keptD m (docD (keptD m D) D strict ⟨n, tq, ta⟩) := by
        by_cases e : keepE (keptD m D) strict ⟨n, tq, ta⟩ = 0
        · exact hke0 e
        · unfold keepR docD; rw [if_neg e, if_neg e]
      rw [hke1] at HKE
      have hdl1 : (docD (keptD m D) D strict ⟨n, tq, ta⟩).length ≤ D.length + 1 := by
        unfold docD; split
        · rw [List.length_append, List.length_singleton]; omega
        · omega
      have HDL1 := Lib.hid hdl1
      have HRD1 : Hid (Ris strict (-1) D → Ris strict (-1) (docD (keptD m D) D strict ⟨n, tq, ta⟩)) := Lib.hid (fun h => ris_doc HDK.out.mo.1 h)
      have HRK : Hid (∀ w', DwAt w' r m strict dv D → _) := Lib.hid (fun w' (hd' : DwAt w' r m strict dv D) => rkeep_any r m strict dv D n tq ta w' hd' HTB4.out.1.1.2.1 HTB4.out.2.1.1.2.1 HLL.out (by rw [HLA.out]; unfold maxLen; omega) (by rw [HLB.out]; unfold maxLen; omega))
      generalize docD (keptD m D) D strict ⟨n, tq, ta⟩ = D1 at *
      generalize keepE (keptD m D) strict ⟨n, tq, ta⟩ = E at *
      clear hd hws hbr hdv hws1 hke0 hke1 hdl1 hrl hdl
      go_wp2_with fail
      refine HKE.out.mono ?_
      rintro _ w5 ⟨rfl, hk5, ho⟩
      have HK5 : Hid (WS (fun q => ((((b ≤ q ∧ q ≠ r ∧ dv.ownBlock ≠ some q) ∧ q < w.heap.size) ∨ w4.heap.size ≤ q)) ∧ q < w5.heap.size) w5 p (m : Int) strict (keptD m D1)) := Lib.hid (hk5.mono (fun q hq s => ⟨s, hq⟩))
      have HO5 : Hid (Only (fun q => b ≤ q) w w5) := Lib.hid ((HO4.out.mono (fun _ _ f => f.elim)).trans (ho.mono (fun q _ s => s.1.1)))
      have HD5 : Hid (DwAt w5 r m strict dv D) := Lib.hid ((HDK.out.quiet HO4.out).only ho (fun s => s.1.2.1 rfl) (fun q e s => s.1.2.2 e))
      have HNA : Hid (NewB w w5 ra k1 rc tq) := Lib.hid (HTB4.out.1.only ho (fun y e s => by have := (HTB4.out.1.2.2.2.2 y e).1; have := s.2; omega))
      have HNB : Hid (NewB w w5 sa k2 sc ta) := Lib.hid (HTB4.out.2.1.only ho (fun y e s => by have := (HTB4.out.2.1.2.2.2.2 y e).1; have := s.2; omega))
      have HAP := Lib.hid HTB4.out.2.2
      have HA9 : Hid (∀ y, ra = some y → w.heap.size ≤ y.block) := Lib.hid (fun y e => (HTB4.out.1.2.2.2.2 y e).1)
      have HB9 : Hid (∀ y, sa = some y → w.heap.size ≤ y.block) := Lib.hid (fun y e => (HTB4.out.2.1.2.2.2.2 y e).1)
      have HS4 : Hid (w.heap.size ≤ w4.heap.size) := Lib.hid HO4.out.size
      have HA4 : Hid (∀ y, ra = some y → y.block < w4.heap.size) := Lib.hid (fun y e => (HTB4.out.1.2.2.2.2 y e).2.1)
      have HB4 : Hid (∀ y, sa = some y → y.block < w4.heap.size) := Lib.hid (fun y e => (HTB4.out.2.1.2.2.2.2 y e).2.1)
      clear hk5 ho HKE HTB4 HDK e40 HO4
      go_upto_block 0 with fail
      go_cut [17] from 97 to 108 (fun iv wx => ∃ l : List Nat, Hid (NewB w wx ra k1 rc l) ∧ Hid (Only (fun q => ∃ y, ra = some y ∧ q = y.block) w5 wx))
      case first =>
        go_wp2_with fail
        go_loopw [17] (fun iv wr => ∃ (i : Nat) (l : List Nat), i ≤ k1 ∧ iv = .int .i64 (i : Int) ∧ Hid (NewB w wr ra k1 rc l) ∧ Hid (Only (fun q => ∃ y, ra = some y ∧ q = y.block) w5 wr)) (fun iv _ => k1 - (intOf iv).toNat)
        case atStart => exact ⟨0, tq, by omega, rfl, HNA, Lib.hid (Only.refl _ _)⟩
        case round =>
          obtain ⟨i, l, hi, rfl, HN, HX⟩ := hrel
          by_cases h8 : i < k1
          · obtain ⟨ga, gb, c, h1, h2, h3, h4, h5a, h5b, -⟩ := HN.out.get h8
            have HN2 := Lib.hid h5a
            have HX2 := Lib.hid h5b
            subst h1
            have hin : (i : Int) < k1 := by omega
            have hi0 : (0 : Int) ≤ i := by omega
            have hx : bits .xor .u8 (c : Int) 3 = ((c ^^^ 3 : Nat) : Int) := u8_xor_nat c 3 h4 (by omega)
            clear h5a h5b h4
            go_wp2_with fail
            go_roundw
            case rel => exact ⟨i + 1, _, by omega, by go_num, HN2, Lib.hid (HX.out.trans HX2.out)⟩
            case measure => simp [intOf]; omega
          · go_wp2_with fail
            go_meet
            exact ⟨l, HN, HX⟩
      case rest =>
        obtain ⟨l1, HN1, HX1⟩ := hcut
        rename World => w6
        have HX5 : Hid (Only (fun q => (∃ y, ra = some y ∧ q = y.block) ∨ (∃ y, sa = some y ∧ q = y.block)) w5 w6) := Lib.hid (HX1.out.mono (fun q _ e => .inl e))
        have HN5 : Hid (NewB w w6 sa k2 sc ta) := Lib.hid (HNB.out.only HX1.out (fun y e s => by obtain ⟨z, e2, e3⟩ := s; exact HAP.out z y e2 e e3.symm))
        clear HNA HNB HAP HN1 HX1
        go_wp2_with fail
        go_loopw [18] (fun iv wr => ∃ (i : Nat) (l : List Nat), i ≤ k2 ∧ iv = .int .i64 (i : Int) ∧ Hid (NewB w wr sa k2 sc l) ∧ Hid (Only (fun q => (∃ y, ra = some y ∧ q = y.block) ∨ (∃ y, sa = some y ∧ q = y.block)) w5 wr)) (fun iv _ => k2 - (intOf iv).toNat)
        case atStart => exact ⟨0, ta, by omega, rfl, HN5, HX5⟩
        case round =>
          obtain ⟨i, l, hi, rfl, HN, HX⟩ := hrel
          by_cases h8 : i < k2
          · obtain ⟨ga, gb, c, h1, h2, h3, h4, h5a, h5b, -⟩ := HN.out.get h8
            have HN2 := Lib.hid h5a
            have HX2 : Hid (Only (fun q => (∃ y, ra = some y ∧ q = y.block) ∨ (∃ y, sa = some y ∧ q = y.block)) _ _) := Lib.hid (h5b.mono (fun q _ e => .inr e))
            subst h1
            have hin : (i : Int) < k2 := by omega
            have hi0 : (0 : Int) ≤ i := by omega
            have hx : bits .xor .u8 (c : Int) 3 = ((c ^^^ 3 : Nat) : Int) := u8_xor_nat c 3 h4 (by omega)
            clear h5a h5b h4
            go_wp2_with fail
            go_roundw
            case rel => exact ⟨i + 1, _, by omega, by go_num, HN2, Lib.hid (HX.out.trans HX2.out)⟩
            case measure => simp [intOf]; omega
          · rename World => w7
            have HNO : Hid (∀ q, ((∃ y, ra = some y ∧ q = y.block) ∨ (∃ y, sa = some y ∧ q = y.block)) → w.heap.size ≤ q ∧ q < w4.heap.size) := Lib.hid (fun q s => by
              rcases s with ⟨y, e, rfl⟩ | ⟨y, e, rfl⟩
              · exact ⟨HA9.out y e, HA4.out y e⟩
              · exact ⟨HB9.out y e, HB4.out y e⟩)
            have HD7 := Lib.hid (HD5.out.only HX.out (fun s => by have := (HNO.out _ s).1; have := HRL.out; omega) (fun q e s => by have := (HNO.out _ s).1; have := HDL.out q e; omega))
            have HK7 := Lib.hid (HK5.out.only HX.out (fun q s t => by
              obtain ⟨t1, t2⟩ := HNO.out q t
              rcases s.1 with s | s
              · have := s.2; omega
              · omega))
            have HO7 : Hid (Only (fun q => b ≤ q) w w7) := Lib.hid (HO5.out.trans (HX.out.mono (fun q _ s => by have := (HNO.out q s).1; have := HBW.out; omega)))
            have hsz7 := HX.out.size
            have HRK7 := Lib.hid (HRK.out w7 HD7.out)
            clear HD5 HK5 HO5 HN HX HNO HRK HA4 HB4 HN5 HX5
            go_wp2_with fail
            refine HRK7.out.mono ?_
            rintro _ w8 ⟨rfl, ⟨dv', hd8, hk8⟩, ho⟩
            have HFIN : Hid (FW b w8 p r m strict D1) := Lib.hid ⟨dv', hd8, ((HK7.out.only ho (fun q s t => by
              rcases t with t | t
              · subst t
                rcases s.1 with s | s
                · exact s.1.2.1 rfl
                · have := HRL.out; have := HS4.out; omega
              · rcases s.1 with s | s
                · exact s.1.2.2 t
                · have := HDL.out q t; have := HS4.out; omega)).mono (fun q _ s => by
              have hne : q < w7.heap.size := Nat.lt_of_lt_of_le s.2 hsz7
              have hdv' : dv.ownBlock ≠ some q → dv'.ownBlock ≠ some q := fun h e => (hk8 q e).elim h (fun e => by omega)
              rcases s.1 with s | s
              · exact ⟨s.1.1, s.1.2.1, hdv' s.1.2.2⟩
              · exact ⟨by have := HS4.out; have := HBW.out; omega, by have := HRL.out; have := HS4.out; omega, hdv' (fun e => by have := HDL.out q e; have := HS4.out; omega)⟩)), HBR.out, fun q e => (hk8 q e).elim (fun e => HDV.out q e) (fun e => by have := HO7.out.size; have := HBW.out; omega)⟩
            have HO8 : Hid (Only (fun q => b ≤ q) w w8) := Lib.hid (HO7.out.trans (ho.mono (fun q _ s => s.elim (fun e => by have := HBR.out; omega) (fun e => HDV.out q e))))
            clear hd8 hk8 ho HK7 HO7 HRK7 HD7 hsz7
            go_wp2_with fail
            go_ret
            exact ⟨by simp, ⟨D1, HDL1.out, HFIN.out, HRD1.out⟩, HO8.out⟩
end Go.Proofs.Ytpjbgcbjelcnbaa.wnd
