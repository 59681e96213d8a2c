/- The law's jobs: their entries. -/
import Derived.Test.YtdjiljkdnpmilaaZ0
import Derived.Test.YtdjiljkdnpmilaaEntMkF
import Derived.Test.YtdjiljkdnpmilaaEntR
import Derived.Deep.CutRange
import Derived.Deep.CutBlock
namespace Go.Proofs.Ytdjiljkdnpmilaa.jnw
open Go.RowKit mem accm accn entw entm
set_option linter.unusedVariables false

/-- a box of two cells -/
def Box2 (w : World) (g : Nat) (x y : Value) (t : TypeId) : Prop := w.heap[g]? = some (.cells #[x, y] t (0, 0))
theorem Box2.new (w : World) (x y : Value) (t : TypeId) : Box2 (w.alloc (.cells #[x, y] t)) w.heap.size x y t := by unfold Box2; rw [heap_alloc, if_pos rfl]
theorem Box2.lt {w : World} {g : Nat} {x y : Value} {t : TypeId} (h : Box2 w g x y t) : g < w.heap.size := heap_lt h
theorem Box2.only {S : Nat → Prop} {w w' : World} {g : Nat} {x y : Value} {t : TypeId} (h : Box2 w g x y t) (ho : Only S w w') (hs : ¬ S g) : Box2 w' g x y t := (ho.block g h.lt hs).trans h
theorem Box2.cells {w : World} {g : Nat} {x y : Value} {t : TypeId} (h : Box2 w g x y t) : w.cell? ⟨g, 0, none⟩ = some x ∧ w.cell? ⟨g, 1, none⟩ = some y ∧ w.frozen? ⟨g, 0, none⟩ = false ∧ w.frozen? ⟨g, 1, none⟩ = false := by
  unfold Box2 at h
  refine ⟨?_, ?_, ?_, ?_⟩ <;> simp [World.cell?, World.frozen?, h]
theorem Box2.set0 {w : World} {g : Nat} {x y : Value} {t : TypeId} (h : Box2 w g x y t) (u : Value) : Box2 (w.setCell ⟨g, 0, none⟩ u) g u y t := by
  obtain ⟨hlt, hk⟩ := Array.getElem?_eq_some_iff.1 h
  show (w.heap.modify g _)[g]? = _
  rw [Array.getElem?_eq_getElem (by rw [Array.size_modify]; exact hlt), Array.getElem_modify_self, hk]
  rfl
theorem Box2.set1 {w : World} {g : Nat} {x y : Value} {t : TypeId} (h : Box2 w g x y t) (u : Value) : Box2 (w.setCell ⟨g, 1, none⟩ u) g x u t := by
  obtain ⟨hlt, hk⟩ := Array.getElem?_eq_some_iff.1 h
  show (w.heap.modify g _)[g]? = _
  rw [Array.getElem?_eq_getElem (by rw [Array.size_modify]; exact hlt), Array.getElem_modify_self, hk]
  rfl
theorem Box2.set2 {w : World} {g : Nat} {x y : Value} {t : TypeId} (h : Box2 w g x y t) (u v : Value) : Box2 ((w.setCell ⟨g, 0, none⟩ u).setCell ⟨g, 1, none⟩ v) g u v t := (h.set0 u).set1 v
theorem set2_only (w : World) (g : Nat) (u v : Value) : Only (fun q => q = g) w ((w.setCell ⟨g, 0, none⟩ u).setCell ⟨g, 1, none⟩ v) := ((Only.refl (fun q => q = g) w).setCell (p := ⟨g, 0, none⟩) (.inl rfl) u).setCell (p := ⟨g, 1, none⟩) (.inl rfl) v
theorem legs_ne {w : World} {g : Nat} {x y : Value} {t : TypeId} (h : Box2 w g x y t) {p : Addr} {n : Nat} {ls : List Lg} (hr : ReadsL w (some p) n ls) (hn : 0 < n) : p.block ≠ g := by
  obtain ⟨b, o, e, hc⟩ := hr.2.2.2.resolve_left (by omega)
  injection e with e
  subst e
  intro e
  have e : b = g := e
  subst e
  have h2 := (hc 0 hn).2.2.1
  unfold Box2 at h
  simp [World.cell?, h] at h2
theorem readsL_keep {S : Nat → Prop} {w w' : World} {a : Option Addr} {n : Nat} {ls : List Lg} (h : ReadsL w a n ls) (ho : Only S w w') (hs : ∀ y, a = some y → 0 < n → ¬ S y.block) : ReadsL w' a n ls := by
  by_cases h0 : n = 0
  · exact ⟨h.1, h.2.1, h.2.2.1, .inl h0⟩
  · exact h.only ho (fun y e => hs y e (by omega))

theorem readsL_block {w : World} {a : Option Addr} {n : Nat} {ls : List Lg} (h : ReadsL w a n ls) {y : Addr} (e : a = some y) (hn : 0 < n) : y.block < w.heap.size := by
  obtain ⟨b, o, e2, hc⟩ := h.2.2.2.resolve_left (by omega)
  rw [e] at e2
  injection e2 with e2
  subst e2
  exact World.block_lt_of_cell? w _ (hc 0 hn).1
theorem imp4 {w w' : World} {p g q : Nat} {a b c d : Value} (h : w.cell? ⟨p, 0, none⟩ = some a ∧ w.cell? ⟨p, 1, none⟩ = some b ∧ w.cell? ⟨g, 0, none⟩ = some c ∧ w.cell? ⟨g, 1, none⟩ = some d) (ho : Only (fun x => x = q) w w') (hn : p ≠ q ∧ g ≠ q) : w'.cell? ⟨p, 0, none⟩ = some a ∧ w'.cell? ⟨p, 1, none⟩ = some b ∧ w'.cell? ⟨g, 0, none⟩ = some c ∧ w'.cell? ⟨g, 1, none⟩ = some d :=
  ⟨ho.cell' h.1 hn.1, ho.cell' h.2.1 hn.1, ho.cell' h.2.2.1 hn.2, ho.cell' h.2.2.2 hn.2⟩
theorem own_is {g n c q : Nat} (e : (Value.slice (some ⟨g, 0, none⟩) n c).ownBlock = some q) : g = q := by simpa [Value.ownBlock] using e
/-- what the document's Make answers, in short -/
def RMx (w : World) (e : Ending) (w' : World) : Prop := ∃ (k : Int) (ls : List Lg) (a : Option Addr) (n c : Nat) (ee : Int), e = .returned (.tuple #[.agg #[.int .i64 k, .slice a n c], .int .i64 ee]) ∧ ReadsL w' a n ls ∧ n ≤ 70 ∧ (∀ y, a = some y → w.heap.size ≤ y.block) ∧ Only (fun _ => False) w w'
theorem rmx_any (kind amount gr : Int) (hg : InI gr) (a : Option Addr) (len cap : Nat) (path : List Int) (w : World) (h : ReadsI w a len path) :
    Calls Try.prog 40 #[.int .i64 kind, .int .i64 amount, .slice a len cap, .int .i64 gr] w (RMx w) := by
  refine (rmakef_any kind amount gr hg a len cap path w h).mono ?_
  rintro e w' (⟨_, rfl, ho⟩ | ⟨_, a2, c2, ls, h1, h2, h3, h4, ⟨h5, rfl⟩ | ⟨h5, rfl⟩⟩)
  · exact ⟨0, [], none, 0, 0, _, rfl, ReadsL.nil _ _, by omega, (fun y e => by cases e), ho⟩
  · exact ⟨kind, ls, a2, _, c2, _, rfl, h4.1, by have := ((chk_ok kind ls).1 h5).2.1; omega, h4.2, h3⟩
  · exact ⟨0, [], none, 0, 0, _, rfl, ReadsL.nil _ _, by omega, (fun y e => by cases e), h3⟩
theorem newsR {w : World} {x : Addr} {n : Nat} {ls : List Lg} (h : ReadsL w (some x) n ls) : ∀ j u, (lv ls)[j]? = some u → w.cell? (x.add j) = some u := by
  obtain ⟨b, off, spot⟩ := x
  intro j u hu
  have hl : ls.length ≠ 0 := by
    intro e
    have : ls = [] := List.eq_nil_of_length_eq_zero e
    subst this
    simp [lv] at hu
  obtain ⟨b', o', e, hc⟩ := h.2.2.2.resolve_left (by rw [← h.1]; exact hl)
  injection e with e
  injection e with e1 e2 e3
  subst e1 e2 e3
  rw [mem.add_none]
  exact news_legs h j u hu
theorem form_own {w : World} {base n : Nat} {v : Value} {ls : List Lg} (h : w.ownsRow base 68 4 v n (lv ls)) (hne : v ≠ .slice none 0 0) : ∃ g cap, v = .slice (some ⟨g, 0, none⟩) n cap ∧ base ≤ g ∧ n ≤ cap := by
  rcases h.2 with ⟨hv, _⟩ | ⟨g, cap, cur, hv, hg, hh, hc, hm, _⟩
  · exact absurd hv hne
  · exact ⟨g, cap, hv, hg, hc⟩

/-- a job's entries: of the program's type, in memory of its own, and of the document's -/
def JobAt (w : World) (e : Ending) (w' : World) : Prop := ∃ (k : Int) (ls : List Lg) (v : Value) (a : Option Addr) (n c : Nat), e = .returned (.tuple #[.agg #[.int .i64 k, v], .agg #[.int .i64 k, .slice a n c]]) ∧ OwnL w' v ls ∧ (∀ q, v.ownBlock = some q → w.heap.size ≤ q) ∧ ReadsL w' a n ls ∧ n ≤ 70 ∧ (∀ y, a = some y → 0 < n → v.ownBlock ≠ some y.block) ∧ Only (fun _ => False) w w' ∧ (∀ y, a = some y → w.heap.size ≤ y.block)
set_option maxRecDepth 100000 in
set_option maxHeartbeats 4000000 in
theorem job_any (what kind amt grp rk : Int) (pa : Option Addr) (pn pc : Nat) (pl : List Int) (la : Option Addr) (ln lc : Nat) (ll : List Lg) (w : World) (hp : ReadsI w pa pn pl) (hpc : pn ≤ pc) (hpn : pa = none → pc = 0) (hgr : InI grp) (hl : LegsR w la ln lc ll) :
    Calls Try.prog 25 #[.agg #[.int .i64 what, .int .i64 kind, .int .i64 amt, .slice pa pn pc, .int .i64 grp, .int .i64 rk, .slice la ln lc]] w (JobAt w) := by
  obtain ⟨i0, hi, hz0, hz1, hz2⟩ := info_parts info_rleg
  obtain ⟨j0, hj, jz0, jz1, jz2⟩ := info_parts info_leg
  obtain ⟨w1, hw1⟩ : ∃ x, x = w.alloc (.cells #[.int .i64 what, .int .i64 kind, .int .i64 amt, .slice pa pn pc, .int .i64 grp, .int .i64 rk, .slice la ln lc] 63) := ⟨_, rfl⟩
  obtain ⟨w2, hw2⟩ : ∃ x, x = w1.alloc (.cells #[.int .i64 0, .slice none 0 0] 25) := ⟨_, rfl⟩
  obtain ⟨w3, hw3⟩ : ∃ x, x = w2.alloc (.cells #[.int .i64 0, .slice none 0 0] 33) := ⟨_, rfl⟩
  obtain ⟨q1, hq1⟩ : ∃ x, x = w.heap.size := ⟨_, rfl⟩
  obtain ⟨q2, hq2⟩ : ∃ x, x = q1 + 1 := ⟨_, rfl⟩
  obtain ⟨q3, hq3⟩ : ∃ x, x = q2 + 1 := ⟨_, rfl⟩
  have hs1 : w1.heap.size = w.heap.size + 1 := by rw [hw1]; exact size_alloc _ _
  have hs2 : w2.heap.size = w1.heap.size + 1 := by rw [hw2]; exact size_alloc _ _
  have hs3 : w3.heap.size = w2.heap.size + 1 := by rw [hw3]; exact size_alloc _ _
  have o1 : Only (fun _ => False) w w1 := by rw [hw1]; exact (Only.refl _ _).alloc _
  have o2 : Only (fun _ => False) w1 w2 := by rw [hw2]; exact (Only.refl _ _).alloc _
  have o3 : Only (fun _ => False) w2 w3 := by rw [hw3]; exact (Only.refl _ _).alloc _
  have HO3 : Hid (Only (fun _ => False) w w3) := Lib.hid ((o1.trans o2).trans o3)
  have HQ : Hid (q1 = w.heap.size ∧ q2 = q1 + 1 ∧ q3 = q2 + 1 ∧ w3.heap.size = q3 + 1) := Lib.hid ⟨hq1, hq2, hq3, by omega⟩
  have hc : ∀ j v, (#[.int .i64 what, .int .i64 kind, .int .i64 amt, .slice pa pn pc, .int .i64 grp, .int .i64 rk, .slice la ln lc] : Array Value)[j]? = some v → ∀ w', Only (fun _ => False) w3 w' → w'.cell? ⟨q1, j, none⟩ = some v := fun j v hv w' ho => ho.cell' (o3.cell' (o2.cell' (by rw [hw1]; exact alloc_new _ _ _ _ _ _ hq1 hv) (fun f => f)) (fun f => f)) (fun f => f)
  have HS1 : Hid (∀ w', Only (fun _ => False) w3 w' → w'.cell? ⟨q1, 1, none⟩ = some (.int .i64 kind) ∧ w'.cell? ⟨q1, 2, none⟩ = some (.int .i64 amt) ∧ w'.cell? ⟨q1, 3, none⟩ = some (.slice pa pn pc) ∧ w'.cell? ⟨q1, 4, none⟩ = some (.int .i64 grp)) := Lib.hid (fun w' ho => ⟨hc 1 _ rfl w' ho, hc 2 _ rfl w' ho, hc 3 _ rfl w' ho, hc 4 _ rfl w' ho⟩)
  have HS0 : Hid (∀ w', Only (fun _ => False) w3 w' → w'.cell? ⟨q1, 0, none⟩ = some (.int .i64 what)) := Lib.hid (fun w' ho => hc 0 _ rfl w' ho)
  have HS6 : Hid (∀ w', Only (fun _ => False) w3 w' → w'.cell? ⟨q1, 5, none⟩ = some (.int .i64 rk) ∧ w'.cell? ⟨q1, 6, none⟩ = some (.slice la ln lc)) := Lib.hid (fun w' ho => ⟨hc 5 _ rfl w' ho, hc 6 _ rfl w' ho⟩)
  have HB2 : Hid (∀ w', Only (fun _ => False) w3 w' → Box2 w' q2 (.int .i64 0) (.slice none 0 0) 25) := Lib.hid (fun w' ho => by
    have h : Box2 w2 q2 (.int .i64 0) (.slice none 0 0) 25 := by rw [hw2, show q2 = w1.heap.size by omega]; exact Box2.new _ _ _ _
    exact h.only (o3.trans ho) (fun f => f))
  have HB3 : Hid (∀ w', Only (fun _ => False) w3 w' → Box2 w' q3 (.int .i64 0) (.slice none 0 0) 33) := Lib.hid (fun w' ho => by
    have h : Box2 w3 q3 (.int .i64 0) (.slice none 0 0) 33 := by rw [hw3, show q3 = w2.heap.size by omega]; exact Box2.new _ _ _ _
    exact h.only ho (fun f => f))
  obtain ⟨n5, hn5⟩ : ∃ n, n = min pn 5 := ⟨_, rfl⟩
  have HMK : Hid (∀ w', Only (fun _ => False) w3 w' → Calls Try.prog 40 #[.int .i64 kind, .int .i64 amt, .slice pa n5 pc, .int .i64 grp] w' (RMx w')) := Lib.hid (fun w' ho => rmx_any kind amt grp hgr pa n5 pc (pl.take n5) w' ((hp.take n5 (by omega)).only (((o1.trans o2).trans o3).trans ho) (fun _ _ f => f)))
  have hmin : min (pn : Int) 5 = (n5 : Int) := by omega
  have hmc : n5 ≤ pc := by omega
  clear hn5
  have HPN := Lib.hid hpn
  have HL := Lib.hid hl
  have hwt := tmod_inJ what 3 (by decide) (by decide)
  generalize hwz : wrap64 ((IntKind.u64.wrap what).tmod 3) = z at hwt
  have HWZ := Lib.hid hwz
  clear hwz hc hp hl hpn o1 o2 o3 hs1 hs2 hs3
  go_enter Try.func25, Try.ntmps25
  go_upto_region 1 with fail
  simp only [← hw1, ← hq1]
  simp only [← hw2, ← hq2]
  simp only [← hw3, ← hq3]
  clear hw1 hw2 hw3 hq1 hq2 hq3
  go_cut [4] from 9 to 25 (fun v4 wx => ∃ (g4 : Nat) (k1 : Int) (ls1 : List Lg) (a1 : Option Addr) (n1 c1 : Nat), v4 = .pointer (some ⟨g4, 0, none⟩) ∧ Hid (Box2 wx g4 (.int .i64 k1) (.slice a1 n1 c1) 33) ∧ Hid (ReadsL wx a1 n1 ls1) ∧ Hid (n1 ≤ 70) ∧ Hid (∀ y, a1 = some y → 0 < n1 → y.block ≠ g4 ∧ y.block ≠ q2 ∧ y.block ≠ q3) ∧ Hid (w3.heap.size ≤ g4) ∧ Hid (Only (fun _ => False) w3 wx) ∧ Hid (∀ y, a1 = some y → w3.heap.size ≤ y.block))
  case first =>
    refine wp_region_noPanic ?_
    refine late.region (fun w' => w'.cell? ⟨q1, 1, none⟩ = some (.int .i64 kind) ∧ w'.cell? ⟨q1, 2, none⟩ = some (.int .i64 amt) ∧ w'.cell? ⟨q1, 3, none⟩ = some (.slice pa pn pc) ∧ w'.cell? ⟨q1, 4, none⟩ = some (.int .i64 grp)) (fun j => [].contains j) (by kernel_rfl) (HS1.out _ (Only.refl _ _).drew) (fun hHeld => ?_)
    obtain ⟨z0, hz0⟩ : ∃ x, x = w3.drew := ⟨_, rfl⟩
    rw [← hz0] at hHeld ⊢
    have hot : Hid (Only (fun _ => False) w3 z0) := Lib.hid (by rw [hz0]; exact (Only.refl _ _).drew)
    clear hz0
    refine late.take (i := 0) [1, 13, 14, 15, 16, 18, 19] (v := ?_) rfl (by kernel_rfl) (by kernel_rfl) (by kernel_rfl) (by kernel_rfl) (fun _ _ _ h => h) (Or.inl ⟨by rfl, ?_⟩) (by assumption) ?_
    rotate_left 1
    · intro w' hSw
      try dsimp only at hSw
      go_simp
      try with_reducible rfl
    try simp only [List.getElem_toArray, List.getElem_cons_zero, Act.put, List.setIfInBounds_toArray, List.set_cons_zero, List.set_cons_succ]
    refine late.take (i := 1) [13, 14, 15, 16, 18, 19] (v := ?_) rfl (by kernel_rfl) (by kernel_rfl) (by kernel_rfl) (by kernel_rfl) (fun _ _ _ h => h) (Or.inl ⟨by rfl, ?_⟩) (by assumption) ?_
    rotate_left 1
    · intro w' hSw
      try dsimp only at hSw
      go_simp
      try with_reducible rfl
    try simp only [List.getElem_toArray, List.getElem_cons_zero, List.getElem_cons_succ, Act.put, List.setIfInBounds_toArray, List.set_cons_zero, List.set_cons_succ]
    refine late.take (i := 2) [3, 13, 14, 15, 16, 18, 19] (v := ?_) rfl (by kernel_rfl) (by kernel_rfl) (by kernel_rfl) (by kernel_rfl) (fun _ _ _ h => h) (Or.inl ⟨by rfl, ?_⟩) (by assumption) ?_
    rotate_left 1
    · intro w' hSw
      try dsimp only at hSw
      go_simp
      try with_reducible rfl
    try simp only [List.getElem_toArray, List.getElem_cons_zero, List.getElem_cons_succ, Act.put, List.setIfInBounds_toArray, List.set_cons_zero, List.set_cons_succ]
    refine late.take (i := 3) [13, 14, 15, 16, 18, 19] (v := ?_) rfl (by kernel_rfl) (by kernel_rfl) (by kernel_rfl) (by kernel_rfl) (fun _ _ _ h => h) (Or.inl ⟨by rfl, ?_⟩) (by assumption) ?_
    rotate_left 1
    · intro w' hSw
      try dsimp only at hSw
      go_simp
      try with_reducible rfl
    try simp only [List.getElem_toArray, List.getElem_cons_zero, List.getElem_cons_succ, Act.put, List.setIfInBounds_toArray, List.set_cons_zero, List.set_cons_succ]
    refine late.take (i := 4) [5, 10, 13, 14, 15, 16, 18, 19] (v := ?_) rfl (by kernel_rfl) (by kernel_rfl) (by kernel_rfl) (by kernel_rfl) (fun _ _ _ h => h) (Or.inl ⟨by rfl, ?_⟩) (by assumption) ?_
    rotate_left 1
    · intro w' hSw
      try dsimp only at hSw
      go_simp
      try with_reducible rfl
    try simp only [List.getElem_toArray, List.getElem_cons_zero, List.getElem_cons_succ, Act.put, List.setIfInBounds_toArray, List.set_cons_zero, List.set_cons_succ]
    refine late.take (i := 5) [10, 13, 14, 15, 16, 18, 19] (v := ?_) rfl (by kernel_rfl) (by kernel_rfl) (by kernel_rfl) (by kernel_rfl) (fun _ _ _ h => h) (Or.inl ⟨by rfl, ?_⟩) (by assumption) ?_
    rotate_left 1
    · intro w' hSw
      try dsimp only at hSw
      go_simp
      try with_reducible rfl
    try simp only [List.getElem_toArray, List.getElem_cons_zero, List.getElem_cons_succ, Act.put, List.setIfInBounds_toArray, List.set_cons_zero, List.set_cons_succ]
    refine late.take (i := 6) [7, 8, 9, 10, 13, 14, 15, 16, 18, 19] (v := ?_) rfl (by kernel_rfl) (by kernel_rfl) (by kernel_rfl) (by kernel_rfl) (fun _ _ _ h => h) (Or.inl ⟨by rfl, ?_⟩) (by assumption) ?_
    rotate_left 1
    · intro w' hSw
      try dsimp only at hSw
      go_simp
      try with_reducible rfl
    try simp only [List.getElem_toArray, List.getElem_cons_zero, List.getElem_cons_succ, Act.put, List.setIfInBounds_toArray, List.set_cons_zero, List.set_cons_succ]
    refine late.take (i := 7) [8, 9, 10, 13, 14, 15, 16, 18, 19] (v := ?_) rfl (by kernel_rfl) (by kernel_rfl) (by kernel_rfl) (by kernel_rfl) (fun _ _ _ h => h) (Or.inl ⟨by rfl, ?_⟩) (by assumption) ?_
    rotate_left 1
    · intro w' hSw
      try dsimp only at hSw
      go_simp
      try with_reducible rfl
    try simp only [List.getElem_toArray, List.getElem_cons_zero, List.getElem_cons_succ, Act.put, List.setIfInBounds_toArray, List.set_cons_zero, List.set_cons_succ]
    refine late.take (i := 8) [9, 10, 13, 14, 15, 16, 18, 19] (v := ?_) rfl (by kernel_rfl) (by kernel_rfl) (by kernel_rfl) (by kernel_rfl) (fun _ _ _ h => h) (Or.inl ⟨by rfl, ?_⟩) (by assumption) ?_
    rotate_left 1
    · intro w' hSw
      try dsimp only at hSw
      go_simp
      try with_reducible rfl
    try simp only [List.getElem_toArray, List.getElem_cons_zero, List.getElem_cons_succ, Act.put, List.setIfInBounds_toArray, List.set_cons_zero, List.set_cons_succ]
    refine late.take (i := 9) [10, 13, 14, 15, 16, 18, 19] (v := ?_) rfl (by kernel_rfl) (by kernel_rfl) (by kernel_rfl) (by kernel_rfl) (fun _ _ _ h => h) (Or.inl ⟨by rfl, ?_⟩) (by assumption) ?_
    rotate_left 1
    · intro w' hSw
      try dsimp only at hSw
      go_simp
      try with_reducible rfl
    try simp only [List.getElem_toArray, List.getElem_cons_zero, List.getElem_cons_succ, Act.put, List.setIfInBounds_toArray, List.set_cons_zero, List.set_cons_succ]
    refine late.take (i := 10) [13, 14, 15, 16, 18, 19] (v := ?_) rfl (by kernel_rfl) (by kernel_rfl) (by kernel_rfl) (by kernel_rfl) (fun _ _ _ h => h) (Or.inl ⟨by rfl, ?_⟩) (by assumption) ?_
    rotate_left 1
    · intro w' hSw
      try dsimp only at hSw
      go_simp
      try with_reducible rfl
    try simp only [List.getElem_toArray, List.getElem_cons_zero, List.getElem_cons_succ, Act.put, List.setIfInBounds_toArray, List.set_cons_zero, List.set_cons_succ]
    refine late.take (i := 11) [12, 13, 14, 15, 16, 18, 19] (v := ?_) rfl (by kernel_rfl) (by kernel_rfl) (by kernel_rfl) (by kernel_rfl) (fun _ _ _ h => h) (Or.inl ⟨by rfl, ?_⟩) (by assumption) ?_
    rotate_left 1
    · intro w' hSw
      try dsimp only at hSw
      go_simp
      try with_reducible rfl
    try simp only [List.getElem_toArray, List.getElem_cons_zero, List.getElem_cons_succ, Act.put, List.setIfInBounds_toArray, List.set_cons_zero, List.set_cons_succ]
    refine late.take (i := 12) [13, 14, 15, 16, 18, 19] (v := ?_) rfl (by kernel_rfl) (by kernel_rfl) (by kernel_rfl) (by kernel_rfl) (fun _ _ _ h => h) (Or.inl ⟨by rfl, ?_⟩) (by assumption) ?_
    rotate_left 1
    · intro w' hSw
      try dsimp only at hSw
      go_simp
      try with_reducible rfl
    try simp only [List.getElem_toArray, List.getElem_cons_zero, List.getElem_cons_succ, Act.put, List.setIfInBounds_toArray, List.set_cons_zero, List.set_cons_succ]
    refine late.ready (rs := [13, 17]) (by kernel_rfl) (by simp) ?_
    refine late.Each.cons rfl (fun K hK => ?_) (late.Each.cons rfl (fun K hK => ?_) late.Each.nil)
    · try simp only [List.getElem_toArray, List.getElem_cons_zero, List.getElem_cons_succ]
      go_simp
      go_at_call 40
      with_reducible refine (HMK.out _ hot.out).mono ?_
      rintro _ W1 ⟨k1, ls1, a1, n1, c1, ee1, rfl, hrd, hn1, hfa, ho⟩
      have HFA : Hid (∀ y, a1 = some y → w3.heap.size ≤ y.block) := Lib.hid (fun y e => Nat.le_trans hot.out.size (hfa y e))
      have HRD := Lib.hid hrd
      have HN1 := Lib.hid hn1
      replace hot := Lib.hid (hot.out.trans ho)
      clear ho hrd hn1 hfa
      try dsimp only
      refine hK.out _ _ (fun _ => HS1.out _ hot.out) (fun hHeld1 => ?_)
      replace hHeld1 := hHeld1 rfl
      clear hK K
      try simp only [List.getElem_toArray, List.getElem_cons_zero, List.getElem_cons_succ, Act.put, List.setIfInBounds_toArray, List.set_cons_zero, List.set_cons_succ]
      refine late.take (i := 14) [15, 16, 18, 19] (v := ?_) rfl (by kernel_rfl) (by kernel_rfl) (by kernel_rfl) (by kernel_rfl) (fun _ _ _ h => h) (Or.inl ⟨by rfl, ?_⟩) (by assumption) ?_
      rotate_left 1
      · intro w' hSw
        try dsimp only at hSw
        go_simp
        try with_reducible rfl
      try simp only [List.getElem_toArray, List.getElem_cons_zero, List.getElem_cons_succ, Act.put, List.setIfInBounds_toArray, List.set_cons_zero, List.set_cons_succ]
      refine late.take (i := 15) [18, 19] (v := ?_) rfl (by kernel_rfl) (by kernel_rfl) (by kernel_rfl) (by kernel_rfl) (fun _ _ _ h => h) (Or.inl ⟨by rfl, ?_⟩) (by assumption) ?_
      rotate_left 1
      · intro w' hSw
        try dsimp only at hSw
        go_simp
        try with_reducible rfl
      try simp only [List.getElem_toArray, List.getElem_cons_zero, List.getElem_cons_succ, Act.put, List.setIfInBounds_toArray, List.set_cons_zero, List.set_cons_succ]
      refine late.take (i := 16) [19] (v := ?_) rfl (by kernel_rfl) (by kernel_rfl) (by kernel_rfl) (by kernel_rfl) (fun _ _ _ h => h) (Or.inl ⟨by rfl, ?_⟩) (by assumption) ?_
      rotate_left 1
      · intro w' hSw
        try dsimp only at hSw
        go_simp
        try with_reducible rfl
      try simp only [List.getElem_toArray, List.getElem_cons_zero, List.getElem_cons_succ, Act.put, List.setIfInBounds_toArray, List.set_cons_zero, List.set_cons_succ]
      refine late.ready (rs := [17]) (by kernel_rfl) (by simp) ?_
      refine late.Each.cons rfl (fun K hK => ?_) late.Each.nil
      try simp only [List.getElem_toArray, List.getElem_cons_zero, List.getElem_cons_succ]
      go_simp
      obtain ⟨x9, hx9⟩ : ∃ x, x = W1 := ⟨_, rfl⟩
      rw [← hx9] at hot HRD ⊢
      obtain ⟨W2, hW⟩ : ∃ x, x = x9.alloc (.cells #[.int .i64 0, .slice none 0 0] 33) := ⟨_, rfl⟩
      obtain ⟨g4, hg⟩ : ∃ x, x = x9.heap.size := ⟨_, rfl⟩
      rw [← hW, ← hg]
      have HBX : Hid (Box2 W2 g4 (.int .i64 0) (.slice none 0 0) 33) := Lib.hid (by rw [hW, hg]; exact Box2.new _ _ _ _)
      have HG4 : Hid (w3.heap.size ≤ g4) := Lib.hid (by rw [hg]; exact hot.out.size)
      have hal : Only (fun _ => False) x9 W2 := by rw [hW]; exact (Only.refl _ _).alloc _
      replace HRD := Lib.hid (HRD.out.only hal (fun _ _ f => f))
      replace hot := Lib.hid (hot.out.trans hal)
      clear hW hg hal hx9
      refine hK.out _ _ (fun _ => HS1.out _ hot.out) (fun hHeld2 => ?_)
      replace hHeld2 := hHeld2 rfl
      clear hK K
      try simp only [List.getElem_toArray, List.getElem_cons_zero, List.getElem_cons_succ, Act.put, List.setIfInBounds_toArray, List.set_cons_zero, List.set_cons_succ]
      refine late.ready (rs := [18]) (by kernel_rfl) (by simp) ?_
      refine late.Each.cons rfl (fun K hK => ?_) late.Each.nil
      have HLN : Hid (∀ y, a1 = some y → 0 < n1 → y.block ≠ g4 ∧ y.block ≠ q2 ∧ y.block ≠ q3) := Lib.hid (fun y e h0 => ⟨legs_ne HBX.out (e ▸ HRD.out) h0, legs_ne (HB2.out _ hot.out) (e ▸ HRD.out) h0, legs_ne (HB3.out _ hot.out) (e ▸ HRD.out) h0⟩)
      obtain ⟨e0, e1, f0, f1⟩ := HBX.out.cells
      try simp only [List.getElem_toArray, List.getElem_cons_zero, List.getElem_cons_succ]
      go_simp
      obtain ⟨w4, hw4⟩ : ∃ x, x = (W2.setCell ⟨g4, 0, none⟩ (.int .i64 k1)).setCell ⟨g4, 1, none⟩ (.slice a1 n1 c1) := ⟨_, rfl⟩
      rw [← hw4]
      have HB4 : Hid (Box2 w4 g4 (.int .i64 k1) (.slice a1 n1 c1) 33) := Lib.hid (by rw [hw4]; exact HBX.out.set2 _ _)
      have HS4 : Hid (Only (fun q => q = g4) W2 w4) := Lib.hid (by rw [hw4]; exact set2_only _ _ _ _)
      have HO4 : Hid (Only (fun _ => False) w3 w4) := Lib.hid (hot.out.then HS4.out (fun q hq e => by have := HG4.out; omega))
      have HRD4 : Hid (ReadsL w4 a1 n1 ls1) := Lib.hid (readsL_keep HRD.out HS4.out (fun y e h0 => (HLN.out y e h0).1))
      clear hw4 e0 e1 f0 f1 hot
      refine hK.out _ _ (fun _ => HS1.out _ HO4.out) (fun hHeld3 => ?_)
      replace hHeld3 := hHeld3 rfl
      clear hK K
      try simp only [List.getElem_toArray, List.getElem_cons_zero, List.getElem_cons_succ, Act.put, List.setIfInBounds_toArray, List.set_cons_zero, List.set_cons_succ]
      refine late.take (i := 19) [] (v := ?_) rfl (by kernel_rfl) (by kernel_rfl) (by kernel_rfl) (by kernel_rfl) (fun _ _ _ h => h) (Or.inl ⟨by rfl, ?_⟩) (by assumption) ?_
      rotate_left 1
      · intro w' hSw
        try dsimp only at hSw
        go_simp
        try with_reducible rfl
      try simp only [List.getElem_toArray, List.getElem_cons_zero, List.getElem_cons_succ, Act.put, List.setIfInBounds_toArray, List.set_cons_zero, List.set_cons_succ]
      refine late.done (by kernel_rfl) ?_ _
      refine NoPanic.normal ?_
      go_wp2_with fail
      go_meet
      exact ⟨g4, k1, ls1, a1, n1, c1, rfl, HB4, HRD4, HN1, HLN, HG4, HO4, HFA⟩

    · try simp only [List.getElem_toArray, List.getElem_cons_zero, List.getElem_cons_succ]
      go_simp
      obtain ⟨x9, hx9⟩ : ∃ x, x = z0 := ⟨_, rfl⟩
      rw [← hx9] at hot ⊢
      obtain ⟨W4, hW⟩ : ∃ x, x = x9.alloc (.cells #[.int .i64 0, .slice none 0 0] 33) := ⟨_, rfl⟩
      obtain ⟨g4, hg⟩ : ∃ x, x = x9.heap.size := ⟨_, rfl⟩
      rw [← hW, ← hg]
      have HBX : Hid (Box2 W4 g4 (.int .i64 0) (.slice none 0 0) 33) := Lib.hid (by rw [hW, hg]; exact Box2.new _ _ _ _)
      have HG4 : Hid (w3.heap.size ≤ g4) := Lib.hid (by rw [hg]; exact hot.out.size)
      have hal : Only (fun _ => False) x9 W4 := by rw [hW]; exact (Only.refl _ _).alloc _
      replace hot := Lib.hid (hot.out.trans hal)
      clear hW hg hal hx9
      refine hK.out _ _ (fun _ => HS1.out _ hot.out) (fun hHeld4 => ?_)
      replace hHeld4 := hHeld4 rfl
      clear hK K
      try simp only [List.getElem_toArray, List.getElem_cons_zero, List.getElem_cons_succ, Act.put, List.setIfInBounds_toArray, List.set_cons_zero, List.set_cons_succ]
      refine late.ready (rs := [13]) (by kernel_rfl) (by simp) ?_
      refine late.Each.cons rfl (fun K hK => ?_) late.Each.nil
      try simp only [List.getElem_toArray, List.getElem_cons_zero, List.getElem_cons_succ]
      go_simp
      go_at_call 40
      with_reducible refine (HMK.out _ hot.out).mono ?_
      rintro _ W5 ⟨k1, ls1, a1, n1, c1, ee1, rfl, hrd, hn1, hfa, ho⟩
      have HFA : Hid (∀ y, a1 = some y → w3.heap.size ≤ y.block) := Lib.hid (fun y e => Nat.le_trans hot.out.size (hfa y e))
      have HRD := Lib.hid hrd
      have HN1 := Lib.hid hn1
      replace HBX := Lib.hid (HBX.out.only ho (fun f => f))
      replace hot := Lib.hid (hot.out.trans ho)
      clear ho hrd hn1 hfa
      try dsimp only
      refine hK.out _ _ (fun _ => HS1.out _ hot.out) (fun hHeld5 => ?_)
      replace hHeld5 := hHeld5 rfl
      clear hK K
      try simp only [List.getElem_toArray, List.getElem_cons_zero, List.getElem_cons_succ, Act.put, List.setIfInBounds_toArray, List.set_cons_zero, List.set_cons_succ]
      refine late.take (i := 14) [15, 16, 18, 19] (v := ?_) rfl (by kernel_rfl) (by kernel_rfl) (by kernel_rfl) (by kernel_rfl) (fun _ _ _ h => h) (Or.inl ⟨by rfl, ?_⟩) (by assumption) ?_
      rotate_left 1
      · intro w' hSw
        try dsimp only at hSw
        go_simp
        try with_reducible rfl
      try simp only [List.getElem_toArray, List.getElem_cons_zero, List.getElem_cons_succ, Act.put, List.setIfInBounds_toArray, List.set_cons_zero, List.set_cons_succ]
      refine late.take (i := 15) [18, 19] (v := ?_) rfl (by kernel_rfl) (by kernel_rfl) (by kernel_rfl) (by kernel_rfl) (fun _ _ _ h => h) (Or.inl ⟨by rfl, ?_⟩) (by assumption) ?_
      rotate_left 1
      · intro w' hSw
        try dsimp only at hSw
        go_simp
        try with_reducible rfl
      try simp only [List.getElem_toArray, List.getElem_cons_zero, List.getElem_cons_succ, Act.put, List.setIfInBounds_toArray, List.set_cons_zero, List.set_cons_succ]
      refine late.take (i := 16) [19] (v := ?_) rfl (by kernel_rfl) (by kernel_rfl) (by kernel_rfl) (by kernel_rfl) (fun _ _ _ h => h) (Or.inl ⟨by rfl, ?_⟩) (by assumption) ?_
      rotate_left 1
      · intro w' hSw
        try dsimp only at hSw
        go_simp
        try with_reducible rfl
      try simp only [List.getElem_toArray, List.getElem_cons_zero, List.getElem_cons_succ, Act.put, List.setIfInBounds_toArray, List.set_cons_zero, List.set_cons_succ]
      refine late.ready (rs := [18]) (by kernel_rfl) (by simp) ?_
      refine late.Each.cons rfl (fun K hK => ?_) late.Each.nil
      have HLN : Hid (∀ y, a1 = some y → 0 < n1 → y.block ≠ g4 ∧ y.block ≠ q2 ∧ y.block ≠ q3) := Lib.hid (fun y e h0 => ⟨legs_ne HBX.out (e ▸ HRD.out) h0, legs_ne (HB2.out _ hot.out) (e ▸ HRD.out) h0, legs_ne (HB3.out _ hot.out) (e ▸ HRD.out) h0⟩)
      obtain ⟨e0, e1, f0, f1⟩ := HBX.out.cells
      try simp only [List.getElem_toArray, List.getElem_cons_zero, List.getElem_cons_succ]
      go_simp
      obtain ⟨w4, hw4⟩ : ∃ x, x = (W5.setCell ⟨g4, 0, none⟩ (.int .i64 k1)).setCell ⟨g4, 1, none⟩ (.slice a1 n1 c1) := ⟨_, rfl⟩
      rw [← hw4]
      have HB4 : Hid (Box2 w4 g4 (.int .i64 k1) (.slice a1 n1 c1) 33) := Lib.hid (by rw [hw4]; exact HBX.out.set2 _ _)
      have HS4 : Hid (Only (fun q => q = g4) W5 w4) := Lib.hid (by rw [hw4]; exact set2_only _ _ _ _)
      have HO4 : Hid (Only (fun _ => False) w3 w4) := Lib.hid (hot.out.then HS4.out (fun q hq e => by have := HG4.out; omega))
      have HRD4 : Hid (ReadsL w4 a1 n1 ls1) := Lib.hid (readsL_keep HRD.out HS4.out (fun y e h0 => (HLN.out y e h0).1))
      clear hw4 e0 e1 f0 f1 hot
      refine hK.out _ _ (fun _ => HS1.out _ HO4.out) (fun hHeld6 => ?_)
      replace hHeld6 := hHeld6 rfl
      clear hK K
      try simp only [List.getElem_toArray, List.getElem_cons_zero, List.getElem_cons_succ, Act.put, List.setIfInBounds_toArray, List.set_cons_zero, List.set_cons_succ]
      refine late.take (i := 19) [] (v := ?_) rfl (by kernel_rfl) (by kernel_rfl) (by kernel_rfl) (by kernel_rfl) (fun _ _ _ h => h) (Or.inl ⟨by rfl, ?_⟩) (by assumption) ?_
      rotate_left 1
      · intro w' hSw
        try dsimp only at hSw
        go_simp
        try with_reducible rfl
      try simp only [List.getElem_toArray, List.getElem_cons_zero, List.getElem_cons_succ, Act.put, List.setIfInBounds_toArray, List.set_cons_zero, List.set_cons_succ]
      refine late.done (by kernel_rfl) ?_ _
      refine NoPanic.normal ?_
      go_wp2_with fail
      go_meet
      exact ⟨g4, k1, ls1, a1, n1, c1, rfl, HB4, HRD4, HN1, HLN, HG4, HO4, HFA⟩
  obtain ⟨g4, k1, ls1, a1, n1, c1, rfl, HB4, HRD4, HN1, HLN1, HG4, HO4, HFA1⟩ := hcut
  rename World => w4
  have hw0 := HS0.out w4 HO4.out
  go_upto_if 31 with fail
  have hwz := HWZ.out
  simp only [hwz]
  clear hw0 hwz
  go_cut [] from 31 to 46 (fun wx => ∃ (k : Int) (ls : List Lg) (a : Option Addr) (n c : Nat), Hid (Box2 wx g4 (.int .i64 k) (.slice a n c) 33) ∧ Hid (ReadsL wx a n ls) ∧ Hid (n ≤ 70) ∧ Hid (∀ y, a = some y → 0 < n → y.block ≠ g4 ∧ y.block ≠ q2 ∧ y.block ≠ q3) ∧ Hid (Only (fun _ => False) w3 wx) ∧ Hid (∀ y, a = some y → w3.heap.size ≤ y.block))
  case first =>
    have HS3 : Hid (∀ w', Only (fun _ => False) w4 w' → w'.cell? ⟨q1, 5, none⟩ = some (.int .i64 rk) ∧ w'.cell? ⟨q1, 6, none⟩ = some (.slice la ln lc)) := Lib.hid (fun w' ho => HS6.out w' (HO4.out.trans ho))
    by_cases h1 : z = 1
    · subst h1
      obtain ⟨n7, hn7⟩ : ∃ n, n = min ln 70 := ⟨_, rfl⟩
      obtain ⟨l7, hl7⟩ : ∃ l, l = ll.take n7 := ⟨_, rfl⟩
      have hmin7 : min (ln : Int) 70 = (n7 : Int) := by omega
      have hlc := HL.out.2.1
      have hmc7 : n7 ≤ lc := by omega
      have HL7 : Hid (l7.length = n7 ∧ ReadsL w la n7 l7) := Lib.hid (by
        have h := HL.out.1.take n7 (by omega)
        rw [← hl7] at h
        exact ⟨h.1, h⟩)
      have HI7 : Hid (∀ l ∈ l7, InL l) := Lib.hid HL7.out.2.2.2.1
      have hn70 : n7 ≤ 70 := by omega
      have HLA := Lib.hid HL.out.2.2.2
      clear hn7 hl7 hlc HRD4 HN1 HLN1
      rcases la with _ | x
      · obtain rfl : lc = 0 := HLA.out rfl
        obtain rfl : n7 = 0 := by omega
        obtain rfl : ln = 0 := by omega
        have hmc0 : min (0 : Int) 70 = 0 := by decide
        go_upto_region 3 with fail
        refine wp_region_noPanic ?_
        refine late.region (fun w' => w'.cell? ⟨q1, 5, none⟩ = some (.int .i64 rk) ∧ w'.cell? ⟨q1, 6, none⟩ = some (.slice none 0 0)) (fun j => [].contains j) (by kernel_rfl) (HS3.out _ (Only.refl _ _).drew) (fun hHeld => ?_)
        obtain ⟨z0, hz0⟩ : ∃ x, x = w4.drew := ⟨_, rfl⟩
        rw [← hz0] at hHeld ⊢
        have hot : Hid (Only (fun _ => False) w4 z0) := Lib.hid (by rw [hz0]; exact (Only.refl _ _).drew)
        clear hz0
        refine late.take (i := 0) [1, 2, 14, 15] (v := ?_) rfl (by kernel_rfl) (by kernel_rfl) (by kernel_rfl) (by kernel_rfl) (fun _ _ _ h => h) (Or.inl ⟨by rfl, ?_⟩) (by assumption) ?_
        rotate_left 1
        · intro w' hSw
          try dsimp only at hSw
          go_simp
          try with_reducible rfl
        try simp only [List.getElem_toArray, List.getElem_cons_zero, Act.put, List.setIfInBounds_toArray, List.set_cons_zero, List.set_cons_succ]
        refine late.take (i := 1) [2, 14, 15] (v := ?_) rfl (by kernel_rfl) (by kernel_rfl) (by kernel_rfl) (by kernel_rfl) (fun _ _ _ h => h) (Or.inl ⟨by rfl, ?_⟩) (by assumption) ?_
        rotate_left 1
        · intro w' hSw
          try dsimp only at hSw
          go_simp
          try with_reducible rfl
        try simp only [List.getElem_toArray, List.getElem_cons_zero, List.getElem_cons_succ, Act.put, List.setIfInBounds_toArray, List.set_cons_zero, List.set_cons_succ]
        refine late.take (i := 2) [14, 15] (v := ?_) rfl (by kernel_rfl) (by kernel_rfl) (by kernel_rfl) (by kernel_rfl) (fun _ _ _ h => h) (Or.inl ⟨by rfl, ?_⟩) (by assumption) ?_
        rotate_left 1
        · intro w' hSw
          try dsimp only at hSw
          go_simp
          try with_reducible rfl
        try simp only [List.getElem_toArray, List.getElem_cons_zero, List.getElem_cons_succ, Act.put, List.setIfInBounds_toArray, List.set_cons_zero, List.set_cons_succ]
        refine late.take (i := 4) [5, 6, 12, 13, 14, 15] (v := ?_) rfl (by kernel_rfl) (by kernel_rfl) (by kernel_rfl) (by kernel_rfl) (fun _ _ _ h => h) (Or.inl ⟨by rfl, ?_⟩) (by assumption) ?_
        rotate_left 1
        · intro w' hSw
          try dsimp only at hSw
          go_simp
          try with_reducible rfl
        try simp only [List.getElem_toArray, List.getElem_cons_zero, List.getElem_cons_succ, Act.put, List.setIfInBounds_toArray, List.set_cons_zero, List.set_cons_succ]
        refine late.take (i := 5) [6, 12, 13, 14, 15] (v := ?_) rfl (by kernel_rfl) (by kernel_rfl) (by kernel_rfl) (by kernel_rfl) (fun _ _ _ h => h) (Or.inl ⟨by rfl, ?_⟩) (by assumption) ?_
        rotate_left 1
        · intro w' hSw
          try dsimp only at hSw
          go_simp
          try with_reducible rfl
        try simp only [List.getElem_toArray, List.getElem_cons_zero, List.getElem_cons_succ, Act.put, List.setIfInBounds_toArray, List.set_cons_zero, List.set_cons_succ]
        refine late.take (i := 6) [12, 13, 14, 15] (v := ?_) rfl (by kernel_rfl) (by kernel_rfl) (by kernel_rfl) (by kernel_rfl) (fun _ _ _ h => h) (Or.inl ⟨by rfl, ?_⟩) (by assumption) ?_
        rotate_left 1
        · intro w' hSw
          try dsimp only at hSw
          go_simp
          try with_reducible rfl
        try simp only [List.getElem_toArray, List.getElem_cons_zero, List.getElem_cons_succ, Act.put, List.setIfInBounds_toArray, List.set_cons_zero, List.set_cons_succ]
        refine late.take (i := 7) [8, 9, 10, 11, 12, 13, 14, 15] (v := ?_) rfl (by kernel_rfl) (by kernel_rfl) (by kernel_rfl) (by kernel_rfl) (fun _ _ _ h => h) (Or.inl ⟨by rfl, ?_⟩) (by assumption) ?_
        rotate_left 1
        · intro w' hSw
          try dsimp only at hSw
          go_simp
          try with_reducible rfl
        try simp only [List.getElem_toArray, List.getElem_cons_zero, List.getElem_cons_succ, Act.put, List.setIfInBounds_toArray, List.set_cons_zero, List.set_cons_succ]
        refine late.take (i := 8) [9, 10, 11, 12, 13, 14, 15] (v := ?_) rfl (by kernel_rfl) (by kernel_rfl) (by kernel_rfl) (by kernel_rfl) (fun _ _ _ h => h) (Or.inl ⟨by rfl, ?_⟩) (by assumption) ?_
        rotate_left 1
        · intro w' hSw
          try dsimp only at hSw
          go_simp
          try with_reducible rfl
        try simp only [List.getElem_toArray, List.getElem_cons_zero, List.getElem_cons_succ, Act.put, List.setIfInBounds_toArray, List.set_cons_zero, List.set_cons_succ]
        refine late.take (i := 9) [10, 11, 12, 13, 14, 15] (v := ?_) rfl (by kernel_rfl) (by kernel_rfl) (by kernel_rfl) (by kernel_rfl) (fun _ _ _ h => h) (Or.inl ⟨by rfl, ?_⟩) (by assumption) ?_
        rotate_left 1
        · intro w' hSw
          try dsimp only at hSw
          go_simp
          try with_reducible rfl
        try simp only [List.getElem_toArray, List.getElem_cons_zero, List.getElem_cons_succ, Act.put, List.setIfInBounds_toArray, List.set_cons_zero, List.set_cons_succ]
        refine late.take (i := 10) [11, 12, 13, 14, 15] (v := ?_) rfl (by kernel_rfl) (by kernel_rfl) (by kernel_rfl) (by kernel_rfl) (fun _ _ _ h => h) (Or.inl ⟨by rfl, ?_⟩) (by assumption) ?_
        rotate_left 1
        · intro w' hSw
          try dsimp only at hSw
          go_simp
          try with_reducible rfl
        try simp only [List.getElem_toArray, List.getElem_cons_zero, List.getElem_cons_succ, Act.put, List.setIfInBounds_toArray, List.set_cons_zero, List.set_cons_succ]
        refine late.take (i := 11) [12, 13, 14, 15] (v := ?_) rfl (by kernel_rfl) (by kernel_rfl) (by kernel_rfl) (by kernel_rfl) (fun _ _ _ h => h) (Or.inl ⟨by rfl, ?_⟩) (by assumption) ?_
        rotate_left 1
        · intro w' hSw
          try dsimp only at hSw
          go_simp
          try with_reducible rfl
        try simp only [List.getElem_toArray, List.getElem_cons_zero, List.getElem_cons_succ, Act.put, List.setIfInBounds_toArray, List.set_cons_zero, List.set_cons_succ]
        refine late.take (i := 12) [13, 14, 15] (v := ?_) rfl (by kernel_rfl) (by kernel_rfl) (by kernel_rfl) (by kernel_rfl) (fun _ _ _ h => h) (Or.inl ⟨by rfl, ?_⟩) (by assumption) ?_
        rotate_left 1
        · intro w' hSw
          try dsimp only at hSw
          go_simp
          try with_reducible rfl
        try simp only [List.getElem_toArray, List.getElem_cons_zero, List.getElem_cons_succ, Act.put, List.setIfInBounds_toArray, List.set_cons_zero, List.set_cons_succ]
        refine late.ready (rs := [3]) (by kernel_rfl) (by simp) ?_
        refine late.Each.cons rfl (fun K hK => ?_) late.Each.nil
        try simp only [List.getElem_toArray, List.getElem_cons_zero, List.getElem_cons_succ]
        go_simp
        obtain ⟨W1, hW⟩ : ∃ x, x = z0.alloc (.cells #[] 68) := ⟨_, rfl⟩
        obtain ⟨g7, hg⟩ : ∃ x, x = z0.heap.size := ⟨_, rfl⟩
        rw [← hW, ← hg]
        have HOW : Hid (W1.ownsRow g7 68 4 (.slice (some ⟨g7, 0, none⟩) 0 0) 0 (lv [])) := Lib.hid (by rw [hW, hg]; exact World.ownsRow_lit (base := z0.heap.size) (e := 68) (size := 4) z0 #[] 0 (Nat.le_refl _) (by decide) rfl)
        have HG7 : Hid (w4.heap.size ≤ g7) := Lib.hid (by rw [hg]; exact hot.out.size)
        have HG7S : Hid (g7 ≤ W1.heap.size) := Lib.hid (by rw [hW, hg]; simp)
        replace hot := Lib.hid (hot.out.trans (by rw [hW]; exact (Only.refl _ _).alloc _ : Only (fun _ => False) z0 W1))
        clear hW hg
        refine hK.out _ _ (fun _ => HS3.out _ hot.out) (fun hHeld1 => ?_)
        replace hHeld1 := hHeld1 rfl
        clear hK K
        try simp only [List.getElem_toArray, List.getElem_cons_zero, List.getElem_cons_succ, Act.put, List.setIfInBounds_toArray, List.set_cons_zero, List.set_cons_succ]
        refine late.ready (rs := [13]) (by kernel_rfl) (by simp) ?_
        refine late.Each.cons rfl (fun K hK => ?_) late.Each.nil
        refine step_none (a := { tmps := _, defers := _ }) rfl _ _ 31 rfl g7 68 i0 4 Try.underlying31 hi _ 0 _ rfl HOW.out rfl ?_
        refine hK.out _ _ (fun _ => HS3.out _ hot.out) (fun hHeld2 => ?_)
        replace hHeld2 := hHeld2 rfl
        clear hK K
        try simp only [List.getElem_toArray, List.getElem_cons_zero, List.getElem_cons_succ, Act.put, List.setIfInBounds_toArray, List.set_cons_zero, List.set_cons_succ]
        refine late.take (i := 14) [15] (v := ?_) rfl (by kernel_rfl) (by kernel_rfl) (by kernel_rfl) (by kernel_rfl) (fun _ _ _ h => h) (Or.inl ⟨by rfl, ?_⟩) (by assumption) ?_
        rotate_left 1
        · intro w' hSw
          try dsimp only at hSw
          go_simp
          try with_reducible rfl
        try simp only [List.getElem_toArray, List.getElem_cons_zero, List.getElem_cons_succ, Act.put, List.setIfInBounds_toArray, List.set_cons_zero, List.set_cons_succ]
        refine late.ready (rs := [15]) (by kernel_rfl) (by simp) ?_
        refine late.Each.cons rfl (fun K hK => ?_) late.Each.nil
        have HBX := Lib.hid (HB4.out.only hot.out (fun f => f))
        obtain ⟨e0, e1, f0, f1⟩ := HBX.out.cells
        try simp only [List.getElem_toArray, List.getElem_cons_zero, List.getElem_cons_succ]
        go_simp
        obtain ⟨w5, hw5⟩ : ∃ x, x = (W1.setCell ⟨g4, 0, none⟩ (.int .i64 rk)).setCell ⟨g4, 1, none⟩ (.slice (some ⟨g7, 0, none⟩) 0 0) := ⟨_, rfl⟩
        rw [← hw5]
        have HB5 : Hid (Box2 w5 g4 (.int .i64 rk) (.slice (some ⟨g7, 0, none⟩) 0 0) 33) := Lib.hid (by rw [hw5]; exact HBX.out.set2 _ _)
        have HS5 : Hid (Only (fun q => q = g4) W1 w5) := Lib.hid (by rw [hw5]; exact set2_only _ _ _ _)
        have HO5 : Hid (Only (fun _ => False) w3 w5) := Lib.hid ((HO4.out.trans hot.out).then HS5.out (fun q hq e => by have := HG4.out; omega))
        have HLT : Hid (g4 < w4.heap.size ∧ q2 < w3.heap.size ∧ q3 < w3.heap.size ∧ w3.heap.size ≤ w4.heap.size) := Lib.hid ⟨HB4.out.lt, (HB2.out _ (Only.refl _ _)).lt, (HB3.out _ (Only.refl _ _)).lt, HO4.out.size⟩
        have HRD5 : Hid (ReadsL w5 (some ⟨g7, 0, none⟩) 0 []) := Lib.hid (ReadsL.nil _ _)
        clear hw5 e0 e1 f0 f1
        refine hK.out _ _ (fun _ => HS6.out _ HO5.out) (fun hHeld3 => ?_)
        replace hHeld3 := hHeld3 rfl
        clear hK K
        try simp only [List.getElem_toArray, List.getElem_cons_zero, List.getElem_cons_succ, Act.put, List.setIfInBounds_toArray, List.set_cons_zero, List.set_cons_succ]
        refine late.done (by kernel_rfl) ?_ _
        refine NoPanic.normal ?_
        go_wp2_with fail
        go_meet
        exact ⟨rk, [], some ⟨g7, 0, none⟩, 0, 0, HB5, HRD5, Lib.hid (by omega), Lib.hid (fun y e h0 => by omega), HO5, Lib.hid (fun y e => by cases e; have h2 := HG7.out; have h3 := HLT.out; show w3.heap.size ≤ g7; omega)⟩
      · go_upto_region 3 with fail
        refine wp_region_noPanic ?_
        refine late.region (fun w' => w'.cell? ⟨q1, 5, none⟩ = some (.int .i64 rk) ∧ w'.cell? ⟨q1, 6, none⟩ = some (.slice (some x) ln lc)) (fun j => [].contains j) (by kernel_rfl) (HS3.out _ (Only.refl _ _).drew) (fun hHeld => ?_)
        obtain ⟨z0, hz0⟩ : ∃ x, x = w4.drew := ⟨_, rfl⟩
        rw [← hz0] at hHeld ⊢
        have hot : Hid (Only (fun _ => False) w4 z0) := Lib.hid (by rw [hz0]; exact (Only.refl _ _).drew)
        clear hz0
        refine late.take (i := 0) [1, 2, 14, 15] (v := ?_) rfl (by kernel_rfl) (by kernel_rfl) (by kernel_rfl) (by kernel_rfl) (fun _ _ _ h => h) (Or.inl ⟨by rfl, ?_⟩) (by assumption) ?_
        rotate_left 1
        · intro w' hSw
          try dsimp only at hSw
          go_simp
          try with_reducible rfl
        try simp only [List.getElem_toArray, List.getElem_cons_zero, Act.put, List.setIfInBounds_toArray, List.set_cons_zero, List.set_cons_succ]
        refine late.take (i := 1) [2, 14, 15] (v := ?_) rfl (by kernel_rfl) (by kernel_rfl) (by kernel_rfl) (by kernel_rfl) (fun _ _ _ h => h) (Or.inl ⟨by rfl, ?_⟩) (by assumption) ?_
        rotate_left 1
        · intro w' hSw
          try dsimp only at hSw
          go_simp
          try with_reducible rfl
        try simp only [List.getElem_toArray, List.getElem_cons_zero, List.getElem_cons_succ, Act.put, List.setIfInBounds_toArray, List.set_cons_zero, List.set_cons_succ]
        refine late.take (i := 2) [14, 15] (v := ?_) rfl (by kernel_rfl) (by kernel_rfl) (by kernel_rfl) (by kernel_rfl) (fun _ _ _ h => h) (Or.inl ⟨by rfl, ?_⟩) (by assumption) ?_
        rotate_left 1
        · intro w' hSw
          try dsimp only at hSw
          go_simp
          try with_reducible rfl
        try simp only [List.getElem_toArray, List.getElem_cons_zero, List.getElem_cons_succ, Act.put, List.setIfInBounds_toArray, List.set_cons_zero, List.set_cons_succ]
        refine late.take (i := 4) [5, 6, 12, 13, 14, 15] (v := ?_) rfl (by kernel_rfl) (by kernel_rfl) (by kernel_rfl) (by kernel_rfl) (fun _ _ _ h => h) (Or.inl ⟨by rfl, ?_⟩) (by assumption) ?_
        rotate_left 1
        · intro w' hSw
          try dsimp only at hSw
          go_simp
          try with_reducible rfl
        try simp only [List.getElem_toArray, List.getElem_cons_zero, List.getElem_cons_succ, Act.put, List.setIfInBounds_toArray, List.set_cons_zero, List.set_cons_succ]
        refine late.take (i := 5) [6, 12, 13, 14, 15] (v := ?_) rfl (by kernel_rfl) (by kernel_rfl) (by kernel_rfl) (by kernel_rfl) (fun _ _ _ h => h) (Or.inl ⟨by rfl, ?_⟩) (by assumption) ?_
        rotate_left 1
        · intro w' hSw
          try dsimp only at hSw
          go_simp
          try with_reducible rfl
        try simp only [List.getElem_toArray, List.getElem_cons_zero, List.getElem_cons_succ, Act.put, List.setIfInBounds_toArray, List.set_cons_zero, List.set_cons_succ]
        refine late.take (i := 6) [12, 13, 14, 15] (v := ?_) rfl (by kernel_rfl) (by kernel_rfl) (by kernel_rfl) (by kernel_rfl) (fun _ _ _ h => h) (Or.inl ⟨by rfl, ?_⟩) (by assumption) ?_
        rotate_left 1
        · intro w' hSw
          try dsimp only at hSw
          go_simp
          try with_reducible rfl
        try simp only [List.getElem_toArray, List.getElem_cons_zero, List.getElem_cons_succ, Act.put, List.setIfInBounds_toArray, List.set_cons_zero, List.set_cons_succ]
        refine late.take (i := 7) [8, 9, 10, 11, 12, 13, 14, 15] (v := ?_) rfl (by kernel_rfl) (by kernel_rfl) (by kernel_rfl) (by kernel_rfl) (fun _ _ _ h => h) (Or.inl ⟨by rfl, ?_⟩) (by assumption) ?_
        rotate_left 1
        · intro w' hSw
          try dsimp only at hSw
          go_simp
          try with_reducible rfl
        try simp only [List.getElem_toArray, List.getElem_cons_zero, List.getElem_cons_succ, Act.put, List.setIfInBounds_toArray, List.set_cons_zero, List.set_cons_succ]
        refine late.take (i := 8) [9, 10, 11, 12, 13, 14, 15] (v := ?_) rfl (by kernel_rfl) (by kernel_rfl) (by kernel_rfl) (by kernel_rfl) (fun _ _ _ h => h) (Or.inl ⟨by rfl, ?_⟩) (by assumption) ?_
        rotate_left 1
        · intro w' hSw
          try dsimp only at hSw
          go_simp
          try with_reducible rfl
        try simp only [List.getElem_toArray, List.getElem_cons_zero, List.getElem_cons_succ, Act.put, List.setIfInBounds_toArray, List.set_cons_zero, List.set_cons_succ]
        refine late.take (i := 9) [10, 11, 12, 13, 14, 15] (v := ?_) rfl (by kernel_rfl) (by kernel_rfl) (by kernel_rfl) (by kernel_rfl) (fun _ _ _ h => h) (Or.inl ⟨by rfl, ?_⟩) (by assumption) ?_
        rotate_left 1
        · intro w' hSw
          try dsimp only at hSw
          go_simp
          try with_reducible rfl
        try simp only [List.getElem_toArray, List.getElem_cons_zero, List.getElem_cons_succ, Act.put, List.setIfInBounds_toArray, List.set_cons_zero, List.set_cons_succ]
        refine late.take (i := 10) [11, 12, 13, 14, 15] (v := ?_) rfl (by kernel_rfl) (by kernel_rfl) (by kernel_rfl) (by kernel_rfl) (fun _ _ _ h => h) (Or.inl ⟨by rfl, ?_⟩) (by assumption) ?_
        rotate_left 1
        · intro w' hSw
          try dsimp only at hSw
          go_simp
          try with_reducible rfl
        try simp only [List.getElem_toArray, List.getElem_cons_zero, List.getElem_cons_succ, Act.put, List.setIfInBounds_toArray, List.set_cons_zero, List.set_cons_succ]
        refine late.take (i := 11) [12, 13, 14, 15] (v := ?_) rfl (by kernel_rfl) (by kernel_rfl) (by kernel_rfl) (by kernel_rfl) (fun _ _ _ h => h) (Or.inl ⟨by rfl, ?_⟩) (by assumption) ?_
        rotate_left 1
        · intro w' hSw
          try dsimp only at hSw
          go_simp
          try with_reducible rfl
        try simp only [List.getElem_toArray, List.getElem_cons_zero, List.getElem_cons_succ, Act.put, List.setIfInBounds_toArray, List.set_cons_zero, List.set_cons_succ]
        refine late.take (i := 12) [13, 14, 15] (v := ?_) rfl (by kernel_rfl) (by kernel_rfl) (by kernel_rfl) (by kernel_rfl) (fun _ _ _ h => h) (Or.inl ⟨by rfl, ?_⟩) (by assumption) ?_
        rotate_left 1
        · intro w' hSw
          try dsimp only at hSw
          go_simp
          try with_reducible rfl
        try simp only [List.getElem_toArray, List.getElem_cons_zero, List.getElem_cons_succ, Act.put, List.setIfInBounds_toArray, List.set_cons_zero, List.set_cons_succ]
        refine late.ready (rs := [3]) (by kernel_rfl) (by simp) ?_
        refine late.Each.cons rfl (fun K hK => ?_) late.Each.nil
        try simp only [List.getElem_toArray, List.getElem_cons_zero, List.getElem_cons_succ]
        go_simp
        obtain ⟨W1, hW⟩ : ∃ x, x = z0.alloc (.cells #[] 68) := ⟨_, rfl⟩
        obtain ⟨g7, hg⟩ : ∃ x, x = z0.heap.size := ⟨_, rfl⟩
        rw [← hW, ← hg]
        have HOW : Hid (W1.ownsRow g7 68 4 (.slice (some ⟨g7, 0, none⟩) 0 0) 0 (lv [])) := Lib.hid (by rw [hW, hg]; exact World.ownsRow_lit (base := z0.heap.size) (e := 68) (size := 4) z0 #[] 0 (Nat.le_refl _) (by decide) rfl)
        have HG7 : Hid (w4.heap.size ≤ g7) := Lib.hid (by rw [hg]; exact hot.out.size)
        have HG7S : Hid (g7 ≤ W1.heap.size) := Lib.hid (by rw [hW, hg]; simp)
        replace hot := Lib.hid (hot.out.trans (by rw [hW]; exact (Only.refl _ _).alloc _ : Only (fun _ => False) z0 W1))
        clear hW hg
        refine hK.out _ _ (fun _ => HS3.out _ hot.out) (fun hHeld1 => ?_)
        replace hHeld1 := hHeld1 rfl
        clear hK K
        try simp only [List.getElem_toArray, List.getElem_cons_zero, List.getElem_cons_succ, Act.put, List.setIfInBounds_toArray, List.set_cons_zero, List.set_cons_succ]
        refine late.ready (rs := [13]) (by kernel_rfl) (by simp) ?_
        refine late.Each.cons rfl (fun K hK => ?_) late.Each.nil
        refine step_own (a := { tmps := _, defers := _ }) rfl _ _ 31 rfl g7 68 i0 _ 4 32 Try.underlying31 hi hz0 hz1 hz2 rfl (by decide) _ 0 _ rfl HOW.out x n7 lc (lv l7) rfl (by rw [lv_length, HL7.out.1]) (newsR (HL7.out.2.only (HO3.out.trans (HO4.out.trans hot.out)) (fun _ _ f => f))) (lv_one l7) (by unfold maxLen; omega) (by omega) HG7S.out ?_
        rintro v9 W2 hown hgrow hne
        obtain ⟨g9, cp9, rfl, hg9, hcp9⟩ := form_own hown (fun e => by have h := (hne.1 e).1; cases h)
        have HGR := Lib.hid (Only.of_grown hgrow)
        have HRD9 : Hid (ReadsL W2 (some ⟨g9, 0, none⟩) n7 l7) := Lib.hid (by have h := own_reads hown (by omega) HI7.out; rwa [Nat.zero_add] at h)
        have HG9 : Hid (g7 ≤ g9) := Lib.hid hg9
        replace hot : Hid (Only (fun _ => False) w4 W2) := Lib.hid (hot.out.then HGR.out (fun q hq e => by have h7 := HG7.out; have e2 := own_is e; omega))
        clear hown hgrow hne hg9 hcp9
        refine hK.out _ _ (fun _ => HS3.out _ hot.out) (fun hHeld2 => ?_)
        replace hHeld2 := hHeld2 rfl
        clear hK K
        try simp only [List.getElem_toArray, List.getElem_cons_zero, List.getElem_cons_succ, Act.put, List.setIfInBounds_toArray, List.set_cons_zero, List.set_cons_succ]
        refine late.take (i := 14) [15] (v := ?_) rfl (by kernel_rfl) (by kernel_rfl) (by kernel_rfl) (by kernel_rfl) (fun _ _ _ h => h) (Or.inl ⟨by rfl, ?_⟩) (by assumption) ?_
        rotate_left 1
        · intro w' hSw
          try dsimp only at hSw
          go_simp
          try with_reducible rfl
        try simp only [List.getElem_toArray, List.getElem_cons_zero, List.getElem_cons_succ, Act.put, List.setIfInBounds_toArray, List.set_cons_zero, List.set_cons_succ]
        refine late.ready (rs := [15]) (by kernel_rfl) (by simp) ?_
        refine late.Each.cons rfl (fun K hK => ?_) late.Each.nil
        have HBX := Lib.hid (HB4.out.only hot.out (fun f => f))
        obtain ⟨e0, e1, f0, f1⟩ := HBX.out.cells
        try simp only [List.getElem_toArray, List.getElem_cons_zero, List.getElem_cons_succ]
        go_simp
        obtain ⟨w5, hw5⟩ : ∃ x, x = (W2.setCell ⟨g4, 0, none⟩ (.int .i64 rk)).setCell ⟨g4, 1, none⟩ (.slice (some ⟨g9, 0, none⟩) n7 cp9) := ⟨_, rfl⟩
        rw [← hw5]
        have HB5 : Hid (Box2 w5 g4 (.int .i64 rk) (.slice (some ⟨g9, 0, none⟩) n7 cp9) 33) := Lib.hid (by rw [hw5]; exact HBX.out.set2 _ _)
        have HS5 : Hid (Only (fun q => q = g4) W2 w5) := Lib.hid (by rw [hw5]; exact set2_only _ _ _ _)
        have HO5 : Hid (Only (fun _ => False) w3 w5) := Lib.hid ((HO4.out.trans hot.out).then HS5.out (fun q hq e => by have := HG4.out; omega))
        have HLT : Hid (g4 < w4.heap.size ∧ q2 < w3.heap.size ∧ q3 < w3.heap.size ∧ w3.heap.size ≤ w4.heap.size) := Lib.hid ⟨HB4.out.lt, (HB2.out _ (Only.refl _ _)).lt, (HB3.out _ (Only.refl _ _)).lt, HO4.out.size⟩
        have HRD5 : Hid (ReadsL w5 (some ⟨g9, 0, none⟩) n7 l7) := Lib.hid (HRD9.out.only HS5.out (fun y e f => by cases e; have f : g9 = g4 := f; have := HG9.out; have := HG7.out; have := HLT.out.1; omega))
        clear hw5 e0 e1 f0 f1
        refine hK.out _ _ (fun _ => HS6.out _ HO5.out) (fun hHeld3 => ?_)
        replace hHeld3 := hHeld3 rfl
        clear hK K
        try simp only [List.getElem_toArray, List.getElem_cons_zero, List.getElem_cons_succ, Act.put, List.setIfInBounds_toArray, List.set_cons_zero, List.set_cons_succ]
        refine late.done (by kernel_rfl) ?_ _
        refine NoPanic.normal ?_
        go_wp2_with fail
        go_meet
        exact ⟨rk, l7, some ⟨g9, 0, none⟩, n7, cp9, HB5, HRD5, Lib.hid (by omega), Lib.hid (fun y e h0 => by cases e; have h1 := HG9.out; have h2 := HG7.out; have h3 := HLT.out; exact ⟨by show g9 ≠ g4; omega, by show g9 ≠ q2; omega, by show g9 ≠ q3; omega⟩), HO5, Lib.hid (fun y e => by cases e; have h1 := HG9.out; have h2 := HG7.out; have h3 := HLT.out; show w3.heap.size ≤ g9; omega)⟩
    · have hb : (z == 1) = false := by simpa using h1
      go_wp2_with fail
      go_meet
      exact ⟨k1, ls1, a1, n1, c1, HB4, HRD4, HN1, HLN1, HO4, HFA1⟩
  clear HB4 HRD4 HN1 HLN1 HO4 HFA1
  obtain ⟨k, ls, a, n, c, HB5, HRD5, HN5, HLN5, HO5, HFA⟩ := hcut
  rename World => w5
  obtain ⟨b0, b1, -, -⟩ := HB5.out.cells
  have hn70 := HN5.out
  have hq6 := (Only.refl (fun _ => False) w5).alloc (.cells #[.int .i64 k, .slice none 0 0] 25)
  obtain ⟨w6, hw6⟩ : ∃ x, x = w5.alloc (.cells #[.int .i64 k, .slice none 0 0] 25) := ⟨_, rfl⟩
  obtain ⟨g6, hg6⟩ : ∃ x, x = w5.heap.size := ⟨_, rfl⟩
  rw [← hw6] at hq6
  have HB6 : Hid (LocAt w6 g6 (.int .i64 k) (.slice none 0 0)) := Lib.hid ⟨by rw [hw6]; exact alloc_new _ _ _ _ _ _ hg6 rfl, by rw [hw6]; exact alloc_new _ _ _ _ _ _ hg6 rfl, by rw [hw6]; exact alloc_froz _ _ _ _ _ hg6⟩
  have HO6 : Hid (Only (fun _ => False) w3 w6) := Lib.hid (HO5.out.trans hq6)
  have HG6 : Hid (g4 < g6 ∧ w3.heap.size ≤ g6 ∧ w6.heap.size = g6 + 1) := Lib.hid ⟨by have := HB5.out.lt; omega, by have := HO5.out.size; omega, by rw [hw6, hg6]; exact size_alloc _ _⟩
  have HB4 := Lib.hid (HB5.out.only hq6 (fun f => f))
  have HRD : Hid (ReadsL w6 a n ls) := Lib.hid (HRD5.out.only hq6 (fun _ _ f => f))
  have HLX : Hid (∀ y, a = some y → 0 < n → y.block ≠ g6) := Lib.hid (fun y e h0 => by have h := readsL_block HRD5.out e h0; omega)
  have HLN6 : Hid (∀ y, a = some y → 0 < n → y.block ≠ q2 ∧ y.block ≠ q3) := Lib.hid (fun y e h0 => (HLN5.out y e h0).2)
  have HLN : Hid (ls.length = n) := Lib.hid HRD.out.1
  clear HB5 HRD5 HN5 HO5 hq6
  go_upto_region 5 with fail
  simp only [← hw6, ← hg6]
  clear hw6 hg6 b0 b1
  go_wp2_with fail
  go_loopw [7] (fun i wr => ∃ (j : Nat) (v : Value), j ≤ n ∧ i = .int .i64 j ∧ Hid (LocAt wr g6 (.int .i64 k) v) ∧ Hid (wr.ownsRow 0 40 4 v j (lv (ls.take j))) ∧ Hid (∀ q, v.ownBlock = some q → w6.heap.size ≤ q) ∧ Hid (Only (fun q => q = g6) w6 wr)) (fun i _ => n - (intOf i).toNat)
  case atStart => exact ⟨0, _, by omega, rfl, HB6, Lib.hid (World.ownsRow_nil _ _ _ _), Lib.hid (fun q e => by cases e), Lib.hid (Only.refl _ _)⟩
  case round =>
    clear HB6
    obtain ⟨j, v, hjn, rfl, HC, HOW, HB, HW⟩ := hrel
    rename World => wr
    obtain ⟨b0, b1, -, -⟩ := (HB4.out.only HW.out (by have := HG6.out.1; omega)).cells
    by_cases h8 : j < n
    · have hjm : (j : Int) < (n : Int) := by omega
      have hj70 : j < 70 := by omega
      obtain ⟨b, off, rfl, hcell⟩ := HRD.out.2.2.2.resolve_left (by omega)
      have hbg : ¬ b = g6 := HLX.out _ rfl (by omega)
      obtain ⟨hc0, hc1, hc2, hc3⟩ := hcell j h8
      have c0 := HW.out.cell' hc0 hbg
      have c1' := HW.out.cell' hc1 hbg
      have c2 := HW.out.cell' hc2 hbg
      have c3 := HW.out.cell' hc3 hbg
      have HTS := Lib.hid (take_snocL ls j (by rw [HLN.out]; exact h8))
      have hlw : g6 < wr.heap.size := World.block_lt_of_cell? wr _ HC.out.c1
      have HVL : Hid (∀ q, v.ownBlock = some q → q < wr.heap.size) := Lib.hid (fun q hq => (World.ownsRow.lt HOW.out q hq).2)
      clear hcell hc0 hc1 hc2 hc3 hbg
      generalize ls.getD j default = l at *
      obtain ⟨lk, lm, lg, lb⟩ := l
      dsimp only at c0 c1' c2 c3
      have HA : Hid (Only (fun _ => False) wr ((wr.alloc (.cells #[.int .i64 lk, .int .i64 lm, .int .i64 lg, .int .i64 lb] 68)).alloc (.cells #[.int .i64 lk, .int .i64 lm, .int .i64 lg, .int .i64 lb] 40))) := Lib.hid (((Only.refl _ wr).alloc _).alloc _)
      have HP := Lib.hid (owns_only (S := fun _ => False) HA.out HOW.out (fun _ _ f => f))
      have HC2 := Lib.hid (HC.out.only HA.out (fun f => f))
      have l1 := HC.out.c1
      have l1' : (wr.alloc (.cells #[.int .i64 lk, .int .i64 lm, .int .i64 lg, .int .i64 lb] 68)).cell? ⟨g6, 1, none⟩ = some v := ((Only.refl (fun _ => False) wr).alloc _).cell' l1 (fun f => f)
      go_wp2_with (at_builtin; refine append_mine rfl _ _ 23 rfl 40 j0 _ 4 32 Try.underlying23 hj jz0 jz1 jz2 rfl (by decide) _ j _ rfl HP.out ⟨wr.heap.size + 1, 0, none⟩ 1 1 (encL ⟨lk, lm, lg, lb⟩) rfl ?d1 ?d2 ?d3 ?d4 ?d5 ?_)
      case d1 => rfl
      case d2 => exact news_leg (by simp) _
      case d3 => exact lv_one [⟨lk, lm, lg, lb⟩]
      case d4 => unfold maxLen; omega
      case d5 => omega
      intro v2 w2 hown hgrow hkk
      have HG := Lib.hid (Only.of_grown hgrow)
      obtain ⟨g2, cp2, rfl, _⟩ := owns_form hown (by omega)
      have HB2 : Hid (∀ q, (Value.slice (some ⟨g2, 0, none⟩) (j + 1) cp2).ownBlock = some q → w6.heap.size ≤ q) := Lib.hid (fun q hq => by
        rcases hkk q hq with e | e
        · exact HB.out q e
        · have := HW.out.size
          omega)
      have HC3 := Lib.hid (HC2.out.only HG.out (fun e => by have := HB.out _ e; have := HG6.out.2.2; omega))
      have m1 := HC3.out.c1
      have mf := HC3.out.f1
      have HS : Hid (Only (fun q => q = g6) w2 (w2.setCell ⟨g6, 1, none⟩ (.slice (some ⟨g2, 0, none⟩) (j + 1) cp2))) := Lib.hid (Only.set _ w2 _ _ _ rfl)
      have HC4 := Lib.hid (HC3.out.set (.slice (some ⟨g2, 0, none⟩) (j + 1) cp2))
      have HOW2 : Hid ((w2.setCell ⟨g6, 1, none⟩ (.slice (some ⟨g2, 0, none⟩) (j + 1) cp2)).ownsRow 0 40 4 (.slice (some ⟨g2, 0, none⟩) (j + 1) cp2) (j + 1) (lv (ls.take (j + 1)))) := Lib.hid (by
        rw [HTS.out, lv_append]
        exact owns_only HS.out hown (fun q hq e => by have := HB2.out q hq; have := HG6.out.2.2; omega))
      have HW2 : Hid (Only (fun q => q = g6) w6 (w2.setCell ⟨g6, 1, none⟩ (.slice (some ⟨g2, 0, none⟩) (j + 1) cp2))) := Lib.hid (((HW.out.then HA.out (fun q hq f => f.elim)).then HG.out (fun q hq e => by have := HB.out q e; omega)).trans HS.out)
      clear hown hgrow hkk l1 l1' b0 b1
      go_wp2_with fail
      go_roundw
      case rel => exact ⟨j + 1, _, by omega, by go_num, HC4, HOW2, HB2, HW2⟩
      case measure => simp [intOf]; omega
    · have hge : ¬ (j : Int) < (n : Int) := by omega
      obtain rfl : j = n := by omega
      have how : Hid (wr.ownsRow 0 40 4 v j (lv ls)) := Lib.hid (by have h := HOW.out; rwa [List.take_of_length_le (by rw [HLN.out]; omega)] at h)
      obtain ⟨a2, cp2, rfl⟩ : ∃ a2 cp2, v = .slice a2 j cp2 := by
        rcases how.out.2 with ⟨hv, h0⟩ | ⟨g, cp, cur, hv, _⟩
        · exact ⟨none, 0, by rw [hv, h0]⟩
        · exact ⟨_, cp, hv⟩
      have HO7 : Hid (Only (fun _ => False) w3 wr) := Lib.hid (HO6.out.then HW.out (fun q hq e => by have := HG6.out; omega))
      have HS10 : Hid (∀ w', Only (fun _ => False) wr w' → w'.cell? ⟨g6, 0, none⟩ = some (.int .i64 k) ∧ w'.cell? ⟨g6, 1, none⟩ = some (.slice a2 j cp2) ∧ w'.cell? ⟨g4, 0, none⟩ = some (.int .i64 k) ∧ w'.cell? ⟨g4, 1, none⟩ = some (.slice a j c)) := Lib.hid (fun w' ho => by
        obtain ⟨d0, d1, -, -⟩ := ((HB4.out.only HW.out (by have := HG6.out.1; omega)).only ho (fun f => f)).cells
        exact ⟨ho.cell' HC.out.c0 (fun f => f), ho.cell' HC.out.c1 (fun f => f), d0, d1⟩)
      have HNQ : Hid (g6 ≠ q2 ∧ g4 ≠ q2) := Lib.hid (by have := HQ.out; have := HG6.out; have := HG4.out; omega)
      have HNQ3 : Hid (g6 ≠ q3 ∧ g4 ≠ q3) := Lib.hid (by have := HQ.out; have := HG6.out; have := HG4.out; omega)
      go_upto_region 10 with fail
      clear b0 b1
      refine wp_region_noPanic ?_
      refine late.region (fun w' => w'.cell? ⟨g6, 0, none⟩ = some (.int .i64 k) ∧ w'.cell? ⟨g6, 1, none⟩ = some (.slice a2 j cp2) ∧ w'.cell? ⟨g4, 0, none⟩ = some (.int .i64 k) ∧ w'.cell? ⟨g4, 1, none⟩ = some (.slice a j c)) (fun j => [].contains j) (by kernel_rfl) (HS10.out _ (Only.refl _ _).drew) (fun hHeld => ?_)
      obtain ⟨z0, hz0⟩ : ∃ x, x = wr.drew := ⟨_, rfl⟩
      rw [← hz0] at hHeld ⊢
      have hot : Hid (Only (fun _ => False) wr z0) := Lib.hid (by rw [hz0]; exact (Only.refl _ _).drew)
      clear hz0
      refine late.take (i := 0) [2, 3] (v := ?_) rfl (by kernel_rfl) (by kernel_rfl) (by kernel_rfl) (by kernel_rfl) (fun _ _ _ h => h) (Or.inl ⟨by rfl, ?_⟩) (by assumption) ?_
      rotate_left 1
      · intro w' hSw
        try dsimp only at hSw
        go_simp
        try with_reducible rfl
      try simp only [List.getElem_toArray, List.getElem_cons_zero, Act.put, List.setIfInBounds_toArray, List.set_cons_zero, List.set_cons_succ]
      refine late.take (i := 1) [3] (v := ?_) rfl (by kernel_rfl) (by kernel_rfl) (by kernel_rfl) (by kernel_rfl) (fun _ _ _ h => h) (Or.inl ⟨by rfl, ?_⟩) (by assumption) ?_
      rotate_left 1
      · intro w' hSw
        try dsimp only at hSw
        go_simp
        try with_reducible rfl
      try simp only [List.getElem_toArray, List.getElem_cons_zero, List.getElem_cons_succ, Act.put, List.setIfInBounds_toArray, List.set_cons_zero, List.set_cons_succ]
      refine late.ready (rs := [2]) (by kernel_rfl) (by simp) ?_
      refine late.Each.cons rfl (fun K hK => ?_) late.Each.nil
      have HX2 := Lib.hid (HB2.out z0 (HO7.out.trans hot.out))
      have HX3 := Lib.hid (HB3.out z0 (HO7.out.trans hot.out))
      obtain ⟨e0, e1, f0, f1⟩ := HX2.out.cells
      try simp only [List.getElem_toArray, List.getElem_cons_zero, List.getElem_cons_succ]
      go_simp
      obtain ⟨w8, hw8⟩ : ∃ x, x = (z0.setCell ⟨q2, 0, none⟩ (.int .i64 k)).setCell ⟨q2, 1, none⟩ (.slice a2 j cp2) := ⟨_, rfl⟩
      rw [← hw8]
      have HX2b : Hid (Box2 w8 q2 (.int .i64 k) (.slice a2 j cp2) 25) := Lib.hid (by rw [hw8]; exact HX2.out.set2 _ _)
      have HS8 : Hid (Only (fun q => q = q2) z0 w8) := Lib.hid (by rw [hw8]; exact set2_only _ _ _ _)
      clear hw8 e0 e1 f0 f1
      refine hK.out _ _ (fun _ => imp4 (HS10.out z0 hot.out) HS8.out HNQ.out) (fun hHeld1 => ?_)
      replace hHeld1 := hHeld1 rfl
      clear hK K
      try simp only [List.getElem_toArray, List.getElem_cons_zero, List.getElem_cons_succ, Act.put, List.setIfInBounds_toArray, List.set_cons_zero, List.set_cons_succ]
      refine late.ready (rs := [3]) (by kernel_rfl) (by simp) ?_
      refine late.Each.cons rfl (fun K hK => ?_) late.Each.nil
      have HX3b := Lib.hid (HX3.out.only HS8.out (by have := HQ.out; show ¬ q3 = q2; omega))
      obtain ⟨e0, e1, f0, f1⟩ := HX3b.out.cells
      try simp only [List.getElem_toArray, List.getElem_cons_zero, List.getElem_cons_succ]
      go_simp
      obtain ⟨w9, hw9⟩ : ∃ x, x = (w8.setCell ⟨q3, 0, none⟩ (.int .i64 k)).setCell ⟨q3, 1, none⟩ (.slice a j c) := ⟨_, rfl⟩
      rw [← hw9]
      have HX3c : Hid (Box2 w9 q3 (.int .i64 k) (.slice a j c) 33) := Lib.hid (by rw [hw9]; exact HX3b.out.set2 _ _)
      have HS9 : Hid (Only (fun q => q = q3) w8 w9) := Lib.hid (by rw [hw9]; exact set2_only _ _ _ _)
      have HX2c := Lib.hid (HX2b.out.only HS9.out (by have := HQ.out; show ¬ q2 = q3; omega))
      clear hw9 e0 e1 f0 f1
      refine hK.out _ _ (fun _ => imp4 (imp4 (HS10.out z0 hot.out) HS8.out HNQ.out) HS9.out HNQ3.out) (fun hHeld2 => ?_)
      replace hHeld2 := hHeld2 rfl
      clear hK K
      try simp only [List.getElem_toArray, List.getElem_cons_zero, List.getElem_cons_succ, Act.put, List.setIfInBounds_toArray, List.set_cons_zero, List.set_cons_succ]
      refine late.done (by kernel_rfl) ?_ _
      refine NoPanic.normal ?_
      obtain ⟨r0, r1, -, -⟩ := HX2c.out.cells
      obtain ⟨r2, r3, -, -⟩ := HX3c.out.cells
      have HO9 : Hid (Only (fun q => q = q2 ∨ q = q3) wr w9) := Lib.hid (((hot.out.mono (fun _ _ f => f.elim)).trans (HS8.out.mono (fun _ _ e => .inl e))).trans (HS9.out.mono (fun _ _ e => .inr e)))
      go_wp2_with fail
      refine bodyPost_ret (v := .tuple #[.agg #[.int .i64 k, .slice a2 j cp2], .agg #[.int .i64 k, .slice a j c]]) (by simp [results, Try.results25, go_sem, r0, r1, r2, r3]) rfl ?_
      have hq := HQ.out
      refine ⟨k, ls, _, a, j, c, rfl, ?_, fun q hq2 => ?_, ?_, by omega, fun y e h0 f => ?_, (HO3.out.trans HO7.out).then HO9.out (fun q hq2 e => by omega), fun y e => by have := HFA.out y e; have := HO3.out.size; omega⟩
      · have h : OwnL wr (.slice a2 j cp2) ls := by unfold OwnL; rw [HLN.out]; exact how.out
        exact h.only HO9.out (fun q hq2 e => by have := HB.out q hq2; have := HG6.out; omega)
      · have := HB.out q hq2; have := HO6.out.size; have := HO3.out.size; omega
      · exact readsL_keep (readsL_keep HRD.out HW.out (fun y e h0 => HLX.out y e h0)) HO9.out (fun y e h0 f => by have h := HLN6.out y e h0; exact f.elim (fun f => h.1 f) (fun f => h.2 f))
      · have h1 := HB.out _ f
        have h2 := readsL_block HRD.out e h0
        omega
end Go.Proofs.Ytdjiljkdnpmilaa.jnw
