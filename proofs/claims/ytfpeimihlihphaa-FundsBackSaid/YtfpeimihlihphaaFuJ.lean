/- Books: new ones; the law's own small calls. -/
import Derived.Test.YtfpeimihlihphaaFuI
import Derived.Test.YtfpeimihlihphaaStepInt
namespace Go.Proofs.Ytfpeimihlihphaa.fnd
open Go.RowKit mem tre
set_option linter.unusedVariables false

theorem bzero : Try.zeroCells91.toList = av A0 := by kernel_rfl
theorem rbzero : Try.zeroCells72.toList = av A0 := by kernel_rfl
theorem BkAt.fresh {cs : Array Value} (hc : cs.toList = av A0) (w : World) (t : TypeId) : BkAt (w.alloc (.cells cs t)) w.heap.size A0 := by
  refine ⟨fun k hk => AcAt.iff.2 fun c hcc => ?_, fun j hj => alloc_froz _ _ _ _ _ rfl⟩
  rw [Go.Joins.cell_of_block (cs := cs) (t := t) (fr := (0, 0)) (by rw [heap_alloc, if_pos rfl])]
  rw [← av_get A0 k c (by simpa [A0] using hk) hcc, ← hc, Array.getElem?_toList]
theorem bnew_any (w : World) : Calls Try.prog 41 #[] w fun e w' => e = .returned (.pointer (some ⟨w.heap.size, 0, none⟩)) ∧ BkAt w' w.heap.size A0 ∧ Only (fun _ => False) w w' := by
  have H : Hid (BkAt (w.alloc (.cells Try.zeroCells91 91)) w.heap.size A0) := Lib.hid (BkAt.fresh bzero w _)
  have HO : Hid (∀ o, Only (fun _ => False) w (w.alloc o)) := Lib.hid (fun o => (Only.refl _ _).alloc o)
  go_enter Try.func41, Try.ntmps41
  go_wp2_with fail
  go_ret
  exact ⟨rfl, H.out, HO.out _⟩
theorem to_any (a : Ac) (w : World) : Calls Try.prog 70 #[aggA a] w fun e w' => e = .returned (aggA a) ∧ Only (fun _ => False) w w' := by
  obtain ⟨at_, ac, ae, au, ah⟩ := a
  unfold aggA
  dsimp only
  obtain ⟨e0, e1, e2, e3, e4, ho9⟩ := node_box 69 (.int .i64 at_) (.int .i64 ac) (.int .i64 ae) (.int .i64 au) (.int .i64 ah) (Only.refl (fun _ => False) w)
  have hg1 : w.heap.size + 1 = (w.alloc (.cells #[.int .i64 at_, .int .i64 ac, .int .i64 ae, .int .i64 au, .int .i64 ah] 69)).heap.size := by simp
  obtain ⟨w1, hw1⟩ : ∃ zz, zz = w.alloc (.cells #[.int .i64 at_, .int .i64 ac, .int .i64 ae, .int .i64 au, .int .i64 ah] 69) := ⟨_, rfl⟩
  obtain ⟨g, hg⟩ : ∃ zz, zz = w.heap.size := ⟨_, rfl⟩
  simp only [← hw1, ← hg] at e0 e1 e2 e3 e4 ho9 hg1
  obtain ⟨w2, hw2⟩ : ∃ zz, zz = w1.alloc (.cells #[.int .i64 0, .int .i64 0, .int .i64 0, .int .i64 0, .int .i64 0] 63) := ⟨_, rfl⟩
  have ho2 : Only (fun _ => False) w1 w2 := by rw [hw2]; exact (Only.refl _ _).alloc _
  have hfive : Five w2 (g + 1) := by rw [hw2]; exact Five.new hg1
  replace e0 := ho2.cell' e0 (fun f => f)
  replace e1 := ho2.cell' e1 (fun f => f)
  replace e2 := ho2.cell' e2 (fun f => f)
  replace e3 := ho2.cell' e3 (fun f => f)
  replace e4 := ho2.cell' e4 (fun f => f)
  have HX := Lib.hid (hfive.put (.int .i64 at_) (.int .i64 ac) (.int .i64 ae) (.int .i64 au) (.int .i64 ah))
  have hop : Only (fun q => q = g + 1) w2 (put50 w2 (g + 1) (.int .i64 at_) (.int .i64 ac) (.int .i64 ae) (.int .i64 au) (.int .i64 ah)) := by rw [put50_eq]; exact put5_only _ _ _ _ _ _ _ _
  have HOP := Lib.hid ((ho9.trans ho2).then hop (fun i hi e => by omega))
  obtain ⟨⟨y0, d0⟩, ⟨y1, d1⟩, ⟨y2, d2⟩, ⟨y3, d3⟩, ⟨y4, d4⟩, f0, f1, f2, f3, f4⟩ := hfive
  unfold put50 at HX HOP
  clear hop ho9 ho2 hg1
  go_enter Try.func70, Try.ntmps70
  go_upto_region 1 with fail
  simp only [← hw1, ← hg, ← hw2]
  clear hw1 hg hw2
  go_wp2_with fail
  obtain ⟨x0, x1, x2, x3, x4⟩ := HX.out
  refine bodyPost_ret (v := .agg #[.int .i64 at_, .int .i64 ac, .int .i64 ae, .int .i64 au, .int .i64 ah]) (by simp [results, Try.results70, go_sem, x0, x1, x2, x3, x4]) rfl ⟨rfl, HOP.out⟩
theorem Right.left_M {a : Ac} (h : Right a) : left a ≤ 9007199254740992 := by
  obtain ⟨⟨⟨a1, a2⟩, ⟨b1, b2⟩, ⟨c1, c2⟩, ⟨d1, d2⟩, ⟨g1, g2⟩⟩, hs, hl⟩ := h
  unfold left
  omega
theorem Bok.shT {dh du : Int} (hd : dh + du ≤ 0) : ∀ (l : List Int) (A : List Ac), Bok A → (∀ i, i < l.length → NodeOk (l.getD i 0)) → l.Nodup → badB A dh du l = false → Bok (shT A l dh du) := by
  intro l
  induction l with
  | nil => intro A h _ _ _; exact h
  | cons n r ih =>
    intro A h hn hnd hb
    obtain ⟨n1, n2⟩ : NodeOk n := hn 0 (by simp)
    unfold badB at hb
    rw [List.any_cons, Bool.or_eq_false_iff] at hb
    obtain ⟨hb1, hb2⟩ := hb
    have hr := h.ok n.toNat
    have hr' : Right (nd A n) := hr
    rw [List.nodup_cons] at hnd
    have hok : Bok (A.set n.toNat (shB (nd A n) dh du)) := by
      refine h.set (by omega) (by omega) ?_
      simp only [Bool.or_eq_false_iff, decide_eq_false_iff_not] at hb1
      generalize nd A n = a at *
      obtain ⟨at_, ac, ae, au, ah⟩ := a
      obtain ⟨⟨⟨a1, a2⟩, ⟨b1, b2⟩, ⟨c1, c2⟩, ⟨d1, d2⟩, ⟨g1, g2⟩⟩, hs, hl⟩ := hr'
      unfold left at hl
      dsimp only at a1 a2 b1 b2 c1 c2 d1 d2 g1 g2 hs hl hb1
      unfold shB
      dsimp only
      refine ⟨⟨⟨a1, a2⟩, ⟨b1, b2⟩, ⟨c1, c2⟩, ⟨?_, ?_⟩, ⟨?_, ?_⟩⟩, hs, ?_⟩
      all_goals first | (show 0 ≤ left _; unfold left; dsimp only; omega) | (dsimp only; omega)
    refine ih _ hok (fun i hi => hn (i + 1) (by simpa using hi)) hnd.2 ?_
    rw [← hb2]
    unfold badB
    have hcong : ∀ m ∈ r, ((decide ((nd (A.set n.toNat (shB (nd A n) dh du)) m).h + dh < 0) || decide ((nd (A.set n.toNat (shB (nd A n) dh du)) m).u + du < 0)) = (decide ((nd A m).h + dh < 0) || decide ((nd A m).u + du < 0))) := by
      intro m hm
      have hne : m.toNat ≠ n.toNat := by
        intro e
        obtain ⟨j, hj, hj2⟩ := List.mem_iff_getElem.1 hm
        have hmn := hn (j + 1) (by simpa using hj)
        have e2 : (n :: r).getD (j + 1) 0 = m := by rw [← hj2]; simp [List.getD, hj]
        rw [e2] at hmn
        obtain ⟨m1, m2⟩ := hmn
        have : m = n := by omega
        rw [this] at hm
        exact hnd.1 hm
      have e3 : nd (A.set n.toNat (shB (nd A n) dh du)) m = nd A m := by unfold nd; simp [List.getD, Ne.symm hne]
      rw [e3]
    rw [Bool.eq_iff_iff, List.any_eq_true, List.any_eq_true]
    exact ⟨fun ⟨m, hm, q⟩ => ⟨m, hm, by rw [← hcong m hm]; exact q⟩, fun ⟨m, hm, q⟩ => ⟨m, hm, by rw [hcong m hm]; exact q⟩⟩
theorem PathOk.nodup {l : List Int} (h : PathOk l) : l.Nodup := by
  unfold List.Nodup
  rw [List.pairwise_iff_getElem]
  intro i j hi hj hij e3
  have h2 := (h.2 j hj).2
  have e1 : l.getD j 0 = l[j] := by simp [List.getD, hj]
  have : l.getD j 0 ∈ l.take j := by
    rw [e1, ← e3]
    have hit : i < (l.take j).length := by rw [List.length_take]; omega
    have : l[i] = (l.take j)[i] := by rw [List.getElem_take]
    rw [this]; exact List.getElem_mem _
  rw [← List.contains_iff_mem, h2] at this
  cases this
theorem Bok.shA {A : List Ac} (h : Bok A) (l : List Int) (x : Int) {dh du : Int} (hd : AmtOk x → dh + du ≤ 0) : Bok (shA A l x dh du) := by
  unfold fnd.shA
  by_cases e : shE A l x dh du = 0
  · rw [if_pos e]
    unfold shE at e
    by_cases q : PathOk l ∧ AmtOk x
    · rw [if_pos q] at e
      have hb : badB A dh du l = false := by
        by_cases hb : badB A dh du l = true
        · rw [if_pos hb] at e; simp at e
        · simpa using hb
      exact Bok.shT (hd q.2) l A h (fun i hi => (q.1.2 i hi).1) q.1.nodup hb
    · rw [if_neg q] at e; simp at e
  · rw [if_neg e]; exact h
theorem holdR_ok {A : List Ac} {x : Int} : ∀ (l ls : List Int), l.length = ls.length → holdR A x l ls = 0 → ∀ n ∈ l, x ≤ left (nd A n) := by
  intro l
  induction l with
  | nil => intro ls _ _ n hn; cases hn
  | cons n r ih =>
    intro ls hl he m hm
    cases ls with
    | nil => simp at hl
    | cons k rs =>
      unfold holdR at he
      by_cases h1 : left (nd A n) < x
      · rw [if_pos h1] at he; simp at he
      · rw [if_neg h1] at he
        split at he
        · simp at he
        · rcases List.mem_cons.1 hm with rfl | hm
          · omega
          · exact ih rs (by simpa using hl) he m hm
theorem Bok.shH {x : Int} (hx : 1 ≤ x) : ∀ (l : List Int) (A : List Ac), Bok A → (∀ i, i < l.length → NodeOk (l.getD i 0)) → l.Nodup → (∀ n ∈ l, x ≤ left (nd A n)) → Bok (fnd.shT A l x 0) := by
  intro l
  induction l with
  | nil => intro A h _ _ _; exact h
  | cons n r ih =>
    intro A h hn hnd hb
    obtain ⟨n1, n2⟩ : NodeOk n := hn 0 (by simp)
    have hr' : Right (nd A n) := h.ok n.toNat
    have hb1 := hb n List.mem_cons_self
    rw [List.nodup_cons] at hnd
    have hok : Bok (A.set n.toNat (shB (nd A n) x 0)) := by
      refine h.set (by omega) (by omega) ?_
      generalize nd A n = a at *
      obtain ⟨at_, ac, ae, au, ah⟩ := a
      obtain ⟨⟨⟨a1, a2⟩, ⟨b1, b2⟩, ⟨c1, c2⟩, ⟨d1, d2⟩, ⟨g1, g2⟩⟩, hs, hl⟩ := hr'
      unfold left at hl hb1
      dsimp only at a1 a2 b1 b2 c1 c2 d1 d2 g1 g2 hs hl hb1
      unfold shB
      dsimp only
      refine ⟨⟨⟨a1, a2⟩, ⟨b1, b2⟩, ⟨c1, c2⟩, ⟨?_, ?_⟩, ⟨?_, ?_⟩⟩, hs, ?_⟩
      all_goals first | (show 0 ≤ left _; unfold left; dsimp only; omega) | (dsimp only; omega)
    refine ih _ hok (fun i hi => hn (i + 1) (by simpa using hi)) hnd.2 (fun m hm => ?_)
    have hne : m.toNat ≠ n.toNat := by
      intro e
      obtain ⟨j, hj, hj2⟩ := List.mem_iff_getElem.1 hm
      have hmn := hn (j + 1) (by simpa using hj)
      have e2 : (n :: r).getD (j + 1) 0 = m := by rw [← hj2]; simp [List.getD, hj]
      rw [e2] at hmn
      obtain ⟨m1, m2⟩ := hmn
      have : m = n := by omega
      rw [this] at hm
      exact hnd.1 hm
    have e3 : nd (A.set n.toNat (shB (nd A n) x 0)) m = nd A m := by unfold nd; simp [List.getD, Ne.symm hne]
    rw [e3]
    exact hb m (List.mem_cons_of_mem _ hm)
theorem Bok.holdA {A : List Ac} (h : Bok A) (l ls : List Int) (x : Int) : Bok (holdA A l ls x) := by
  unfold fnd.holdA
  by_cases e : holdE A l ls x = 0
  · rw [if_pos e]
    unfold holdE at e
    by_cases q : (PathOk l ∧ ls.length = l.length ∧ LOk ls ls.length) ∧ AmtOk x
    · rw [if_pos q] at e
      exact Bok.shH q.2.1 l A h (fun i hi => (q.1.1.2 i hi).1) q.1.1.nodup (holdR_ok l ls q.1.2.1.symm e)
    · rw [if_neg q] at e; simp at e
  · rw [if_neg e]; exact h
theorem take_min5 {l : List Int} {n : Nat} (h : l.length = n) : l.take 5 = l.take (min n 5) := by
  by_cases h5 : n ≤ 5
  · rw [Nat.min_eq_left h5, List.take_of_length_le (by omega), List.take_of_length_le (by omega)]
  · rw [Nat.min_eq_right (by omega)]
/-- what lists hands back: two rows of the call's own -/
def ListsAt (w : World) (pl ll : List Int) (e : Ending) (w' : World) : Prop := ∃ a1 c1 a2 c2, e = .returned (.tuple #[.slice a1 (pl.take 5).length c1, .slice a2 (ll.take 5).length c2]) ∧ ReadsI w' a1 (pl.take 5).length (pl.take 5) ∧ (pl.take 5).length ≤ c1 ∧ ReadsI w' a2 (ll.take 5).length (ll.take 5) ∧ (ll.take 5).length ≤ c2 ∧ (∀ y, a1 = some y → w.heap.size ≤ y.block) ∧ (∀ y, a2 = some y → w.heap.size ≤ y.block) ∧ Only (fun _ => False) w w'
def aggAct (what node : Int) (pa : Option Addr) (pn pc : Nat) (la : Option Addr) (ln lc : Nat) (amt : Int) (carry : Bool) (x : Ac) : Value :=
  .agg #[.int .i64 what, .int .i64 node, .slice pa pn pc, .slice la ln lc, .int .i64 amt, .bool carry, .int .i64 x.t, .int .i64 x.c, .int .i64 x.e, .int .i64 x.u, .int .i64 x.h]
set_option maxRecDepth 100000 in
set_option maxHeartbeats 4000000 in
theorem lists_any (what node : Int) (pa : Option Addr) (pn pc : Nat) (pl : List Int) (la : Option Addr) (ln lc : Nat) (ll : List Int) (amt : Int) (carry : Bool) (x : Ac) (w : World) (h1 : ReadsI w pa pn pl) (c1 : pn ≤ pc) (h2 : ReadsI w la ln ll) (c2 : ln ≤ lc) : Calls Try.prog 43 #[aggAct what node pa pn pc la ln lc amt carry x] w (ListsAt w pl ll) := by
  have HK1 : Hid ((pl.take 5).length = min pn 5) := Lib.hid (by rw [List.length_take, h1.1]; omega)
  have HK2 : Hid ((ll.take 5).length = min ln 5) := Lib.hid (by rw [List.length_take, h2.1]; omega)
  have m1 : min (pn : Int) 5 = ((min pn 5 : Nat) : Int) := by omega
  have m2 : min (ln : Int) 5 = ((min ln 5 : Nat) : Int) := by omega
  have k1a : min pn 5 ≤ 5 := by omega
  have k2a : min ln 5 ≤ 5 := by omega
  have k1b : min pn 5 ≤ pc := by omega
  have k2b : min ln 5 ≤ lc := by omega
  have k1c : min pn 5 ≤ pn := by omega
  have k2c : min ln 5 ≤ ln := by omega
  have hl1 := h1.2.1
  have hl2 := h2.2.1
  have hpi : ∀ c ∈ pl.take 5, -9223372036854775808 ≤ c ∧ c ≤ 9223372036854775807 := fun c hc => h1.2.2.1 c (List.mem_of_mem_take hc)
  have hli : ∀ c ∈ ll.take 5, -9223372036854775808 ≤ c ∧ c ≤ 9223372036854775807 := fun c hc => h2.2.2.1 c (List.mem_of_mem_take hc)
  have HPI := Lib.hid hpi
  have HLI := Lib.hid hli
  have t1 : pl.take 5 = pl.take (min pn 5) := take_min5 h1.1
  have t2 : ll.take 5 = ll.take (min ln 5) := take_min5 h2.1
  have HT0 : Hid (ReadsI w pa (min pn 5) (pl.take 5)) := Lib.hid (by rw [t1]; exact mem.ReadsI.take h1 _ k1c)
  have HT0' : Hid (ReadsI w la (min ln 5) (ll.take 5)) := Lib.hid (by rw [t2]; exact mem.ReadsI.take h2 _ k2c)
  generalize min pn 5 = k1 at *
  generalize min ln 5 = k2 at *
  have n1 : (k1 : Int) ≤ pc := by omega
  have n2 : (k2 : Int) ≤ lc := by omega
  unfold maxLen at hl1 hl2
  unfold aggAct
  obtain ⟨w1, hw1⟩ : ∃ zz, zz = w.alloc (.cells #[.int .i64 what, .int .i64 node, .slice pa pn pc, .slice la ln lc, .int .i64 amt, .bool carry, .int .i64 x.t, .int .i64 x.c, .int .i64 x.e, .int .i64 x.u, .int .i64 x.h] 74) := ⟨_, rfl⟩
  obtain ⟨g, hg⟩ : ∃ zz, zz = w.heap.size := ⟨_, rfl⟩
  have e2 : w1.cell? ⟨g, 2, none⟩ = some (.slice pa pn pc) := by rw [hw1]; exact alloc_cell hg rfl
  have e3 : w1.cell? ⟨g, 3, none⟩ = some (.slice la ln lc) := by rw [hw1]; exact alloc_cell hg rfl
  have ho1 : Only (fun _ => False) w w1 := by rw [hw1]; exact (Only.refl _ _).alloc _
  have HO1 := Lib.hid ho1
  have HSL : Hid (∀ w', Only (fun _ => False) w1 w' → w'.cell? ⟨g, 2, none⟩ = some (.slice pa pn pc) ∧ w'.cell? ⟨g, 3, none⟩ = some (.slice la ln lc)) := Lib.hid (fun w' ho => ⟨ho.cell' e2 (fun f => f), ho.cell' e3 (fun f => f)⟩)
  have HT1 : Hid (∀ w', Only (fun _ => False) w1 w' → ReadsI w' pa k1 (pl.take 5)) := Lib.hid (fun w' ho => HT0.out.only (HO1.out.trans ho) (fun _ _ f => f))
  have HT2 : Hid (∀ w', Only (fun _ => False) w1 w' → ReadsI w' la k2 (ll.take 5)) := Lib.hid (fun w' ho => HT0'.out.only (HO1.out.trans ho) (fun _ _ f => f))
  clear h1 h2 hpi hli t1 t2 HT0 HT0' ho1
  go_enter Try.func43, Try.ntmps43
  go_upto_region 1 with fail
  simp only [← hw1, ← hg]
  clear hw1 hg
  refine wp_region_noPanic ?_
  refine late.region (fun w' => w'.cell? ⟨g, 2, none⟩ = some (.slice pa pn pc) ∧ w'.cell? ⟨g, 3, none⟩ = some (.slice la ln lc)) (fun j => [].contains j) (by kernel_rfl) (HSL.out _ (Only.refl _ _).drew) (fun hHeld => ?_)
  obtain ⟨z0, hz0⟩ : ∃ x, x = w1.drew := ⟨_, rfl⟩
  rw [← hz0] at hHeld ⊢
  have hot : Hid (Only (fun _ => False) w1 z0) := Lib.hid (by rw [hz0]; exact (Only.refl _ _).drew)
  clear hz0
  refine late.take (i := 1) [2, 7, 8, 17, 18, 19] (v := ?_) rfl (by kernel_rfl) (by kernel_rfl) (by kernel_rfl) (by kernel_rfl) (fun _ _ _ h => h) (Or.inl ⟨by rfl, ?_⟩) (by assumption) ?_
  rotate_left 1
  · intro w' hSw
    try dsimp only at hSw
    go_simp
    try with_reducible rfl
  try simp only [List.getElem_toArray, List.getElem_cons_zero, List.getElem_cons_succ, Act.put, List.setIfInBounds_toArray, List.set_cons_zero, List.set_cons_succ]
  refine late.take (i := 2) [7, 8, 17, 18, 19] (v := ?_) rfl (by kernel_rfl) (by kernel_rfl) (by kernel_rfl) (by kernel_rfl) (fun _ _ _ h => h) (Or.inl ⟨by rfl, ?_⟩) (by assumption) ?_
  rotate_left 1
  · intro w' hSw
    try dsimp only at hSw
    go_simp
    try with_reducible rfl
  try simp only [List.getElem_toArray, List.getElem_cons_zero, List.getElem_cons_succ, Act.put, List.setIfInBounds_toArray, List.set_cons_zero, List.set_cons_succ]
  refine late.take (i := 3) [4, 5, 6, 7, 8, 17, 18, 19] (v := ?_) rfl (by kernel_rfl) (by kernel_rfl) (by kernel_rfl) (by kernel_rfl) (fun _ _ _ h => h) (Or.inl ⟨by rfl, ?_⟩) (by assumption) ?_
  rotate_left 1
  · intro w' hSw
    try dsimp only at hSw
    go_simp
    try with_reducible rfl
  try simp only [List.getElem_toArray, List.getElem_cons_zero, List.getElem_cons_succ, Act.put, List.setIfInBounds_toArray, List.set_cons_zero, List.set_cons_succ]
  refine late.take (i := 4) [5, 6, 7, 8, 17, 18, 19] (v := ?_) rfl (by kernel_rfl) (by kernel_rfl) (by kernel_rfl) (by kernel_rfl) (fun _ _ _ h => h) (Or.inl ⟨by rfl, ?_⟩) (by assumption) ?_
  rotate_left 1
  · intro w' hSw
    try dsimp only at hSw
    go_simp
    try with_reducible rfl
  try simp only [List.getElem_toArray, List.getElem_cons_zero, List.getElem_cons_succ, Act.put, List.setIfInBounds_toArray, List.set_cons_zero, List.set_cons_succ]
  refine late.take (i := 5) [6, 7, 8, 17, 18, 19] (v := ?_) rfl (by kernel_rfl) (by kernel_rfl) (by kernel_rfl) (by kernel_rfl) (fun _ _ _ h => h) (Or.inl ⟨by rfl, ?_⟩) (by assumption) ?_
  rotate_left 1
  · intro w' hSw
    try dsimp only at hSw
    go_simp
    try with_reducible rfl
  try simp only [List.getElem_toArray, List.getElem_cons_zero, List.getElem_cons_succ, Act.put, List.setIfInBounds_toArray, List.set_cons_zero, List.set_cons_succ]
  refine late.take (i := 6) [7, 8, 17, 18, 19] (v := ?_) rfl (by kernel_rfl) (by kernel_rfl) (by kernel_rfl) (by kernel_rfl) (fun _ _ _ h => h) (Or.inl ⟨by rfl, ?_⟩) (by assumption) ?_
  rotate_left 1
  · intro w' hSw
    try dsimp only at hSw
    go_simp
    try with_reducible rfl
  try simp only [List.getElem_toArray, List.getElem_cons_zero, List.getElem_cons_succ, Act.put, List.setIfInBounds_toArray, List.set_cons_zero, List.set_cons_succ]
  refine late.take (i := 7) [8, 17, 18, 19] (v := ?_) rfl (by kernel_rfl) (by kernel_rfl) (by kernel_rfl) (by kernel_rfl) (fun _ _ _ h => h) (Or.inl ⟨by rfl, ?_⟩) (by assumption) ?_
  rotate_left 1
  · intro w' hSw
    try dsimp only at hSw
    go_simp
    try with_reducible rfl
  try simp only [List.getElem_toArray, List.getElem_cons_zero, List.getElem_cons_succ, Act.put, List.setIfInBounds_toArray, List.set_cons_zero, List.set_cons_succ]
  refine late.take (i := 10) [11, 16, 17, 18, 19] (v := ?_) rfl (by kernel_rfl) (by kernel_rfl) (by kernel_rfl) (by kernel_rfl) (fun _ _ _ h => h) (Or.inl ⟨by rfl, ?_⟩) (by assumption) ?_
  rotate_left 1
  · intro w' hSw
    try dsimp only at hSw
    go_simp
    try with_reducible rfl
  try simp only [List.getElem_toArray, List.getElem_cons_zero, List.getElem_cons_succ, Act.put, List.setIfInBounds_toArray, List.set_cons_zero, List.set_cons_succ]
  refine late.take (i := 11) [16, 17, 18, 19] (v := ?_) rfl (by kernel_rfl) (by kernel_rfl) (by kernel_rfl) (by kernel_rfl) (fun _ _ _ h => h) (Or.inl ⟨by rfl, ?_⟩) (by assumption) ?_
  rotate_left 1
  · intro w' hSw
    try dsimp only at hSw
    go_simp
    try with_reducible rfl
  try simp only [List.getElem_toArray, List.getElem_cons_zero, List.getElem_cons_succ, Act.put, List.setIfInBounds_toArray, List.set_cons_zero, List.set_cons_succ]
  refine late.take (i := 12) [13, 14, 15, 16, 17, 18, 19] (v := ?_) rfl (by kernel_rfl) (by kernel_rfl) (by kernel_rfl) (by kernel_rfl) (fun _ _ _ h => h) (Or.inl ⟨by rfl, ?_⟩) (by assumption) ?_
  rotate_left 1
  · intro w' hSw
    try dsimp only at hSw
    go_simp
    try with_reducible rfl
  try simp only [List.getElem_toArray, List.getElem_cons_zero, List.getElem_cons_succ, Act.put, List.setIfInBounds_toArray, List.set_cons_zero, List.set_cons_succ]
  refine late.take (i := 13) [14, 15, 16, 17, 18, 19] (v := ?_) rfl (by kernel_rfl) (by kernel_rfl) (by kernel_rfl) (by kernel_rfl) (fun _ _ _ h => h) (Or.inl ⟨by rfl, ?_⟩) (by assumption) ?_
  rotate_left 1
  · intro w' hSw
    try dsimp only at hSw
    go_simp
    try with_reducible rfl
  try simp only [List.getElem_toArray, List.getElem_cons_zero, List.getElem_cons_succ, Act.put, List.setIfInBounds_toArray, List.set_cons_zero, List.set_cons_succ]
  refine late.take (i := 14) [15, 16, 17, 18, 19] (v := ?_) rfl (by kernel_rfl) (by kernel_rfl) (by kernel_rfl) (by kernel_rfl) (fun _ _ _ h => h) (Or.inl ⟨by rfl, ?_⟩) (by assumption) ?_
  rotate_left 1
  · intro w' hSw
    try dsimp only at hSw
    go_simp
    try with_reducible rfl
  try simp only [List.getElem_toArray, List.getElem_cons_zero, List.getElem_cons_succ, Act.put, List.setIfInBounds_toArray, List.set_cons_zero, List.set_cons_succ]
  refine late.take (i := 15) [16, 17, 18, 19] (v := ?_) rfl (by kernel_rfl) (by kernel_rfl) (by kernel_rfl) (by kernel_rfl) (fun _ _ _ h => h) (Or.inl ⟨by rfl, ?_⟩) (by assumption) ?_
  rotate_left 1
  · intro w' hSw
    try dsimp only at hSw
    go_simp
    try with_reducible rfl
  try simp only [List.getElem_toArray, List.getElem_cons_zero, List.getElem_cons_succ, Act.put, List.setIfInBounds_toArray, List.set_cons_zero, List.set_cons_succ]
  refine late.take (i := 16) [17, 18, 19] (v := ?_) rfl (by kernel_rfl) (by kernel_rfl) (by kernel_rfl) (by kernel_rfl) (fun _ _ _ h => h) (Or.inl ⟨by rfl, ?_⟩) (by assumption) ?_
  rotate_left 1
  · intro w' hSw
    try dsimp only at hSw
    go_simp
    try with_reducible rfl
  try simp only [List.getElem_toArray, List.getElem_cons_zero, List.getElem_cons_succ, Act.put, List.setIfInBounds_toArray, List.set_cons_zero, List.set_cons_succ]
  refine late.ready (rs := [0, 9]) (by kernel_rfl) (by simp) ?_
  refine late.Each.cons rfl (fun K hK => ?_) (late.Each.cons rfl (fun K hK => ?_) late.Each.nil)
  · try simp only [List.getElem_toArray, List.getElem_cons_zero]
    go_simp
    obtain ⟨W1, hW1⟩ : ∃ x, x = z0.alloc (.cells #[] 3) := ⟨_, rfl⟩
    obtain ⟨g1, hg1⟩ : ∃ x, x = z0.heap.size := ⟨_, rfl⟩
    rw [← hW1, ← hg1]
    have hal : Only (fun _ => False) z0 W1 := by rw [hW1]; exact (Only.refl _ _).alloc _
    have HVA : Hid (OwnI W1 (.slice (some ⟨g1, 0, none⟩) 0 0) []) := Lib.hid (by rw [hW1, hg1]; exact World.ownsRow_lit z0 #[] 0 (Nat.zero_le _) (by decide) rfl)
    have HBA : Hid (∀ q, (Value.slice (some ⟨g1, 0, none⟩) 0 0).ownBlock = some q → w1.heap.size ≤ q) := Lib.hid (fun q e => by
      have e' : g1 = q := by simpa [Value.ownBlock] using e
      have := hot.out.size; omega)
    replace hot : Hid (Only (fun _ => False) w1 W1) := Lib.hid (hot.out.trans hal)
    clear hW1 hg1 hal
    refine hK.out _ _ (fun _ => HSL.out _ hot.out) (fun hHeld1 => ?_)
    replace hHeld1 := hHeld1 rfl
    clear hK K
    try simp only [List.getElem_toArray, List.getElem_cons_zero, Act.put, List.setIfInBounds_toArray, List.set_cons_zero, List.set_cons_succ]
    refine late.ready (rs := [8, 9]) (by kernel_rfl) (by simp) ?_
    refine late.Each.cons rfl (fun K hK => ?_) (late.Each.cons rfl (fun K hK => ?_) late.Each.nil)
    · refine step_int (a := { tmps := _, defers := _ }) rfl _ _ rfl (.slice (some ⟨g1, 0, none⟩) 0 0) [] rfl HVA.out pa k1 pc (pl.take 5) rfl (HT1.out _ hot.out) (by simp only [List.length_nil]; omega) ?_
      rintro v2 W2 hown hgrow hkk
      have hgo := Only.of_grown hgrow
      have hown' : OwnI W2 v2 (pl.take 5) := by simpa using hown
      replace HVA := Lib.hid hown'
      have hot2 : Hid (Only (fun _ => False) w1 W2) := Lib.hid (hot.out.then hgo (fun q hq e => by have := HBA.out q e; omega))
      replace HBA : Hid (∀ q, v2.ownBlock = some q → w1.heap.size ≤ q) := Lib.hid (fun q hq => by
        rcases hkk q hq with e | e
        · exact HBA.out q e
        · have := hot.out.size; omega)
      replace hot := hot2
      clear hown hgrow hkk hgo hown' hot2
      refine hK.out _ _ (fun _ => HSL.out _ hot.out) (fun hHeld2 => ?_)
      replace hHeld2 := hHeld2 rfl
      clear hK K
      try simp only [List.getElem_toArray, List.getElem_cons_zero, List.getElem_cons_succ, Act.put, List.setIfInBounds_toArray, List.set_cons_zero, List.set_cons_succ]
      refine late.ready (rs := [9]) (by kernel_rfl) (by simp) ?_
      refine late.Each.cons rfl (fun K hK => ?_) late.Each.nil
      try simp only [List.getElem_toArray, List.getElem_cons_zero, List.getElem_cons_succ]
      go_simp
      obtain ⟨W3, hW3⟩ : ∃ x, x = W2.alloc (.cells #[] 3) := ⟨_, rfl⟩
      obtain ⟨g3, hg3⟩ : ∃ x, x = W2.heap.size := ⟨_, rfl⟩
      rw [← hW3, ← hg3]
      have hal : Only (fun _ => False) W2 W3 := by rw [hW3]; exact (Only.refl _ _).alloc _
      have HVB : Hid (OwnI W3 (.slice (some ⟨g3, 0, none⟩) 0 0) []) := Lib.hid (by rw [hW3, hg3]; exact World.ownsRow_lit W2 #[] 0 (Nat.zero_le _) (by decide) rfl)
      have HBB : Hid (∀ q, (Value.slice (some ⟨g3, 0, none⟩) 0 0).ownBlock = some q → w1.heap.size ≤ q) := Lib.hid (fun q e => by
        have e' : g3 = q := by simpa [Value.ownBlock] using e
        have := hot.out.size; omega)
      have HOL := ownI_lt HVA.out
      have HD : Hid (∀ q q2, (v2 : Value).ownBlock = some q → ((.slice (some ⟨g3, 0, none⟩) 0 0) : Value).ownBlock = some q2 → q ≠ q2) := Lib.hid (fun q q2 e e2 => by
        have h1 := HOL _ e
        have e' : g3 = q2 := by simpa [Value.ownBlock] using e2
        omega)
      replace HVA := Lib.hid (HVA.out.only hal (fun _ _ f => f))
      clear HOL
      replace hot : Hid (Only (fun _ => False) w1 W3) := Lib.hid (hot.out.trans hal)
      clear hW3 hg3 hal
      refine hK.out _ _ (fun _ => HSL.out _ hot.out) (fun hHeld3 => ?_)
      replace hHeld3 := hHeld3 rfl
      clear hK K
      try simp only [List.getElem_toArray, List.getElem_cons_zero, List.getElem_cons_succ, Act.put, List.setIfInBounds_toArray, List.set_cons_zero, List.set_cons_succ]
      refine late.ready (rs := [17]) (by kernel_rfl) (by simp) ?_
      refine late.Each.cons rfl (fun K hK => ?_) late.Each.nil
      refine step_int (a := { tmps := _, defers := _ }) rfl _ _ rfl (.slice (some ⟨g3, 0, none⟩) 0 0) [] rfl HVB.out la k2 lc (ll.take 5) rfl (HT2.out _ hot.out) (by simp only [List.length_nil]; omega) ?_
      rintro v4 W4 hown hgrow hkk
      have hgo := Only.of_grown hgrow
      have hown' : OwnI W4 v4 (ll.take 5) := by simpa using hown
      replace HVA := Lib.hid (HVA.out.only hgo (fun k hk hs => HD.out _ _ hk hs rfl))
      replace HVB := Lib.hid hown'
      have hot2 : Hid (Only (fun _ => False) w1 W4) := Lib.hid (hot.out.then hgo (fun q hq e => by have := HBB.out q e; omega))
      replace HBB : Hid (∀ q, v4.ownBlock = some q → w1.heap.size ≤ q) := Lib.hid (fun q hq => by
        rcases hkk q hq with e | e
        · exact HBB.out q e
        · have := hot.out.size; omega)
      replace hot := hot2
      clear hown hgrow hkk hgo hown' hot2
      refine hK.out _ _ (fun _ => HSL.out _ hot.out) (fun hHeld4 => ?_)
      replace hHeld4 := hHeld4 rfl
      clear hK K
      try simp only [List.getElem_toArray, List.getElem_cons_zero, List.getElem_cons_succ, Act.put, List.setIfInBounds_toArray, List.set_cons_zero, List.set_cons_succ]
      refine late.take (i := 18) [19] (v := ?_) rfl (by kernel_rfl) (by kernel_rfl) (by kernel_rfl) (by kernel_rfl) (fun _ _ _ h => h) (Or.inl ⟨by rfl, ?_⟩) (by assumption) ?_
      rotate_left 1
      · intro w' hSw
        try dsimp only at hSw
        go_simp
        try with_reducible rfl
      try simp only [List.getElem_toArray, List.getElem_cons_zero, List.getElem_cons_succ, Act.put, List.setIfInBounds_toArray, List.set_cons_zero, List.set_cons_succ]
      refine late.take (i := 19) [] (v := ?_) rfl (by kernel_rfl) (by kernel_rfl) (by kernel_rfl) (by kernel_rfl) (fun _ _ _ h => h) (Or.inl ⟨by rfl, ?_⟩) (by assumption) ?_
      rotate_left 1
      · intro w' hSw
        try dsimp only at hSw
        go_simp
        try with_reducible rfl
      try simp only [List.getElem_toArray, List.getElem_cons_zero, List.getElem_cons_succ, Act.put, List.setIfInBounds_toArray, List.set_cons_zero, List.set_cons_succ]
      refine late.done (by kernel_rfl) ?_ _
      refine NoPanic.normal ?_
      obtain ⟨ra, rc, rfl, hra, hrc, hrb⟩ := HVA.out.form HPI.out (by rw [HK1.out]; omega)
      obtain ⟨sa, sc, rfl, hsa, hsc, hsb⟩ := HVB.out.form HLI.out (by rw [HK2.out]; omega)
      have HEND := Lib.hid (show ListsAt w pl ll _ W4 from ⟨ra, rc, sa, sc, rfl, hra, hrc, hsa, hsc, fun y e => by have := HBA.out _ (hrb y e); have := HO1.out.size; omega, fun y e => by have := HBB.out _ (hsb y e); have := HO1.out.size; omega, HO1.out.trans hot.out⟩)
      clear hra hrc hrb hsa hsc hsb HVA HVB HBA HBB hot HD HSL HT1 HT2
      go_wp2_with fail
      go_ret2
      exact HEND.out

    · try simp only [List.getElem_toArray, List.getElem_cons_zero, List.getElem_cons_succ]
      go_simp
      obtain ⟨W5, hW5⟩ : ∃ x, x = W1.alloc (.cells #[] 3) := ⟨_, rfl⟩
      obtain ⟨g5, hg5⟩ : ∃ x, x = W1.heap.size := ⟨_, rfl⟩
      rw [← hW5, ← hg5]
      have hal : Only (fun _ => False) W1 W5 := by rw [hW5]; exact (Only.refl _ _).alloc _
      have HVB : Hid (OwnI W5 (.slice (some ⟨g5, 0, none⟩) 0 0) []) := Lib.hid (by rw [hW5, hg5]; exact World.ownsRow_lit W1 #[] 0 (Nat.zero_le _) (by decide) rfl)
      have HBB : Hid (∀ q, (Value.slice (some ⟨g5, 0, none⟩) 0 0).ownBlock = some q → w1.heap.size ≤ q) := Lib.hid (fun q e => by
        have e' : g5 = q := by simpa [Value.ownBlock] using e
        have := hot.out.size; omega)
      have HOL := ownI_lt HVA.out
      have HD : Hid (∀ q q2, ((.slice (some ⟨g1, 0, none⟩) 0 0) : Value).ownBlock = some q → ((.slice (some ⟨g5, 0, none⟩) 0 0) : Value).ownBlock = some q2 → q ≠ q2) := Lib.hid (fun q q2 e e2 => by
        have h1 := HOL _ e
        have e' : g5 = q2 := by simpa [Value.ownBlock] using e2
        omega)
      replace HVA := Lib.hid (HVA.out.only hal (fun _ _ f => f))
      clear HOL
      replace hot : Hid (Only (fun _ => False) w1 W5) := Lib.hid (hot.out.trans hal)
      clear hW5 hg5 hal
      refine hK.out _ _ (fun _ => HSL.out _ hot.out) (fun hHeld5 => ?_)
      replace hHeld5 := hHeld5 rfl
      clear hK K
      try simp only [List.getElem_toArray, List.getElem_cons_zero, List.getElem_cons_succ, Act.put, List.setIfInBounds_toArray, List.set_cons_zero, List.set_cons_succ]
      refine late.ready (rs := [8]) (by kernel_rfl) (by simp) ?_
      refine late.Each.cons rfl (fun K hK => ?_) late.Each.nil
      refine step_int (a := { tmps := _, defers := _ }) rfl _ _ rfl (.slice (some ⟨g1, 0, none⟩) 0 0) [] rfl HVA.out pa k1 pc (pl.take 5) rfl (HT1.out _ hot.out) (by simp only [List.length_nil]; omega) ?_
      rintro v6 W6 hown hgrow hkk
      have hgo := Only.of_grown hgrow
      have HDO := HD
      have hown' : OwnI W6 v6 (pl.take 5) := by simpa using hown
      have HOL := ownI_lt HVB.out
      replace HD : Hid (∀ q q2, v6.ownBlock = some q → ((.slice (some ⟨g5, 0, none⟩) 0 0) : Value).ownBlock = some q2 → q ≠ q2) := Lib.hid (fun q q2 e e2 => by
        rcases hkk q e with e3 | e3
        · exact HD.out q q2 e3 e2
        · have := HOL _ e2; omega)
      replace HVB := Lib.hid (HVB.out.only hgo (fun k hk hs => HDO.out _ _ hs hk rfl))
      clear HOL HDO
      replace HVA := Lib.hid hown'
      have hot2 : Hid (Only (fun _ => False) w1 W6) := Lib.hid (hot.out.then hgo (fun q hq e => by have := HBA.out q e; omega))
      replace HBA : Hid (∀ q, v6.ownBlock = some q → w1.heap.size ≤ q) := Lib.hid (fun q hq => by
        rcases hkk q hq with e | e
        · exact HBA.out q e
        · have := hot.out.size; omega)
      replace hot := hot2
      clear hown hgrow hkk hgo hown' hot2
      refine hK.out _ _ (fun _ => HSL.out _ hot.out) (fun hHeld6 => ?_)
      replace hHeld6 := hHeld6 rfl
      clear hK K
      try simp only [List.getElem_toArray, List.getElem_cons_zero, List.getElem_cons_succ, Act.put, List.setIfInBounds_toArray, List.set_cons_zero, List.set_cons_succ]
      refine late.ready (rs := [17]) (by kernel_rfl) (by simp) ?_
      refine late.Each.cons rfl (fun K hK => ?_) late.Each.nil
      refine step_int (a := { tmps := _, defers := _ }) rfl _ _ rfl (.slice (some ⟨g5, 0, none⟩) 0 0) [] rfl HVB.out la k2 lc (ll.take 5) rfl (HT2.out _ hot.out) (by simp only [List.length_nil]; omega) ?_
      rintro v7 W7 hown hgrow hkk
      have hgo := Only.of_grown hgrow
      have hown' : OwnI W7 v7 (ll.take 5) := by simpa using hown
      replace HVA := Lib.hid (HVA.out.only hgo (fun k hk hs => HD.out _ _ hk hs rfl))
      replace HVB := Lib.hid hown'
      have hot2 : Hid (Only (fun _ => False) w1 W7) := Lib.hid (hot.out.then hgo (fun q hq e => by have := HBB.out q e; omega))
      replace HBB : Hid (∀ q, v7.ownBlock = some q → w1.heap.size ≤ q) := Lib.hid (fun q hq => by
        rcases hkk q hq with e | e
        · exact HBB.out q e
        · have := hot.out.size; omega)
      replace hot := hot2
      clear hown hgrow hkk hgo hown' hot2
      refine hK.out _ _ (fun _ => HSL.out _ hot.out) (fun hHeld7 => ?_)
      replace hHeld7 := hHeld7 rfl
      clear hK K
      try simp only [List.getElem_toArray, List.getElem_cons_zero, List.getElem_cons_succ, Act.put, List.setIfInBounds_toArray, List.set_cons_zero, List.set_cons_succ]
      refine late.take (i := 18) [19] (v := ?_) rfl (by kernel_rfl) (by kernel_rfl) (by kernel_rfl) (by kernel_rfl) (fun _ _ _ h => h) (Or.inl ⟨by rfl, ?_⟩) (by assumption) ?_
      rotate_left 1
      · intro w' hSw
        try dsimp only at hSw
        go_simp
        try with_reducible rfl
      try simp only [List.getElem_toArray, List.getElem_cons_zero, List.getElem_cons_succ, Act.put, List.setIfInBounds_toArray, List.set_cons_zero, List.set_cons_succ]
      refine late.take (i := 19) [] (v := ?_) rfl (by kernel_rfl) (by kernel_rfl) (by kernel_rfl) (by kernel_rfl) (fun _ _ _ h => h) (Or.inl ⟨by rfl, ?_⟩) (by assumption) ?_
      rotate_left 1
      · intro w' hSw
        try dsimp only at hSw
        go_simp
        try with_reducible rfl
      try simp only [List.getElem_toArray, List.getElem_cons_zero, List.getElem_cons_succ, Act.put, List.setIfInBounds_toArray, List.set_cons_zero, List.set_cons_succ]
      refine late.done (by kernel_rfl) ?_ _
      refine NoPanic.normal ?_
      obtain ⟨ra, rc, rfl, hra, hrc, hrb⟩ := HVA.out.form HPI.out (by rw [HK1.out]; omega)
      obtain ⟨sa, sc, rfl, hsa, hsc, hsb⟩ := HVB.out.form HLI.out (by rw [HK2.out]; omega)
      have HEND := Lib.hid (show ListsAt w pl ll _ W7 from ⟨ra, rc, sa, sc, rfl, hra, hrc, hsa, hsc, fun y e => by have := HBA.out _ (hrb y e); have := HO1.out.size; omega, fun y e => by have := HBB.out _ (hsb y e); have := HO1.out.size; omega, HO1.out.trans hot.out⟩)
      clear hra hrc hrb hsa hsc hsb HVA HVB HBA HBB hot HD HSL HT1 HT2
      go_wp2_with fail
      go_ret2
      exact HEND.out

  · try simp only [List.getElem_toArray, List.getElem_cons_zero, List.getElem_cons_succ]
    go_simp
    obtain ⟨W8, hW8⟩ : ∃ x, x = z0.alloc (.cells #[] 3) := ⟨_, rfl⟩
    obtain ⟨g8, hg8⟩ : ∃ x, x = z0.heap.size := ⟨_, rfl⟩
    rw [← hW8, ← hg8]
    have hal : Only (fun _ => False) z0 W8 := by rw [hW8]; exact (Only.refl _ _).alloc _
    have HVB : Hid (OwnI W8 (.slice (some ⟨g8, 0, none⟩) 0 0) []) := Lib.hid (by rw [hW8, hg8]; exact World.ownsRow_lit z0 #[] 0 (Nat.zero_le _) (by decide) rfl)
    have HBB : Hid (∀ q, (Value.slice (some ⟨g8, 0, none⟩) 0 0).ownBlock = some q → w1.heap.size ≤ q) := Lib.hid (fun q e => by
      have e' : g8 = q := by simpa [Value.ownBlock] using e
      have := hot.out.size; omega)
    replace hot : Hid (Only (fun _ => False) w1 W8) := Lib.hid (hot.out.trans hal)
    clear hW8 hg8 hal
    refine hK.out _ _ (fun _ => HSL.out _ hot.out) (fun hHeld8 => ?_)
    replace hHeld8 := hHeld8 rfl
    clear hK K
    try simp only [List.getElem_toArray, List.getElem_cons_zero, List.getElem_cons_succ, Act.put, List.setIfInBounds_toArray, List.set_cons_zero, List.set_cons_succ]
    refine late.ready (rs := [0]) (by kernel_rfl) (by simp) ?_
    refine late.Each.cons rfl (fun K hK => ?_) late.Each.nil
    try simp only [List.getElem_toArray, List.getElem_cons_zero]
    go_simp
    obtain ⟨W9, hW9⟩ : ∃ x, x = W8.alloc (.cells #[] 3) := ⟨_, rfl⟩
    obtain ⟨g9, hg9⟩ : ∃ x, x = W8.heap.size := ⟨_, rfl⟩
    rw [← hW9, ← hg9]
    have hal : Only (fun _ => False) W8 W9 := by rw [hW9]; exact (Only.refl _ _).alloc _
    have HVA : Hid (OwnI W9 (.slice (some ⟨g9, 0, none⟩) 0 0) []) := Lib.hid (by rw [hW9, hg9]; exact World.ownsRow_lit W8 #[] 0 (Nat.zero_le _) (by decide) rfl)
    have HBA : Hid (∀ q, (Value.slice (some ⟨g9, 0, none⟩) 0 0).ownBlock = some q → w1.heap.size ≤ q) := Lib.hid (fun q e => by
      have e' : g9 = q := by simpa [Value.ownBlock] using e
      have := hot.out.size; omega)
    have HOL := ownI_lt HVB.out
    have HD : Hid (∀ q q2, ((.slice (some ⟨g9, 0, none⟩) 0 0) : Value).ownBlock = some q → ((.slice (some ⟨g8, 0, none⟩) 0 0) : Value).ownBlock = some q2 → q ≠ q2) := Lib.hid (fun q q2 e e2 => by
      have h1 := HOL _ e2
      have e' : g9 = q := by simpa [Value.ownBlock] using e
      omega)
    replace HVB := Lib.hid (HVB.out.only hal (fun _ _ f => f))
    clear HOL
    replace hot : Hid (Only (fun _ => False) w1 W9) := Lib.hid (hot.out.trans hal)
    clear hW9 hg9 hal
    refine hK.out _ _ (fun _ => HSL.out _ hot.out) (fun hHeld9 => ?_)
    replace hHeld9 := hHeld9 rfl
    clear hK K
    try simp only [List.getElem_toArray, List.getElem_cons_zero, Act.put, List.setIfInBounds_toArray, List.set_cons_zero, List.set_cons_succ]
    refine late.ready (rs := [8]) (by kernel_rfl) (by simp) ?_
    refine late.Each.cons rfl (fun K hK => ?_) late.Each.nil
    refine step_int (a := { tmps := _, defers := _ }) rfl _ _ rfl (.slice (some ⟨g9, 0, none⟩) 0 0) [] rfl HVA.out pa k1 pc (pl.take 5) rfl (HT1.out _ hot.out) (by simp only [List.length_nil]; omega) ?_
    rintro v10 W10 hown hgrow hkk
    have hgo := Only.of_grown hgrow
    have HDO := HD
    have hown' : OwnI W10 v10 (pl.take 5) := by simpa using hown
    have HOL := ownI_lt HVB.out
    replace HD : Hid (∀ q q2, v10.ownBlock = some q → ((.slice (some ⟨g8, 0, none⟩) 0 0) : Value).ownBlock = some q2 → q ≠ q2) := Lib.hid (fun q q2 e e2 => by
      rcases hkk q e with e3 | e3
      · exact HD.out q q2 e3 e2
      · have := HOL _ e2; omega)
    replace HVB := Lib.hid (HVB.out.only hgo (fun k hk hs => HDO.out _ _ hs hk rfl))
    clear HOL HDO
    replace HVA := Lib.hid hown'
    have hot2 : Hid (Only (fun _ => False) w1 W10) := Lib.hid (hot.out.then hgo (fun q hq e => by have := HBA.out q e; omega))
    replace HBA : Hid (∀ q, v10.ownBlock = some q → w1.heap.size ≤ q) := Lib.hid (fun q hq => by
      rcases hkk q hq with e | e
      · exact HBA.out q e
      · have := hot.out.size; omega)
    replace hot := hot2
    clear hown hgrow hkk hgo hown' hot2
    refine hK.out _ _ (fun _ => HSL.out _ hot.out) (fun hHeld10 => ?_)
    replace hHeld10 := hHeld10 rfl
    clear hK K
    try simp only [List.getElem_toArray, List.getElem_cons_zero, List.getElem_cons_succ, Act.put, List.setIfInBounds_toArray, List.set_cons_zero, List.set_cons_succ]
    refine late.ready (rs := [17]) (by kernel_rfl) (by simp) ?_
    refine late.Each.cons rfl (fun K hK => ?_) late.Each.nil
    refine step_int (a := { tmps := _, defers := _ }) rfl _ _ rfl (.slice (some ⟨g8, 0, none⟩) 0 0) [] rfl HVB.out la k2 lc (ll.take 5) rfl (HT2.out _ hot.out) (by simp only [List.length_nil]; omega) ?_
    rintro v11 W11 hown hgrow hkk
    have hgo := Only.of_grown hgrow
    have hown' : OwnI W11 v11 (ll.take 5) := by simpa using hown
    replace HVA := Lib.hid (HVA.out.only hgo (fun k hk hs => HD.out _ _ hk hs rfl))
    replace HVB := Lib.hid hown'
    have hot2 : Hid (Only (fun _ => False) w1 W11) := Lib.hid (hot.out.then hgo (fun q hq e => by have := HBB.out q e; omega))
    replace HBB : Hid (∀ q, v11.ownBlock = some q → w1.heap.size ≤ q) := Lib.hid (fun q hq => by
      rcases hkk q hq with e | e
      · exact HBB.out q e
      · have := hot.out.size; omega)
    replace hot := hot2
    clear hown hgrow hkk hgo hown' hot2
    refine hK.out _ _ (fun _ => HSL.out _ hot.out) (fun hHeld11 => ?_)
    replace hHeld11 := hHeld11 rfl
    clear hK K
    try simp only [List.getElem_toArray, List.getElem_cons_zero, List.getElem_cons_succ, Act.put, List.setIfInBounds_toArray, List.set_cons_zero, List.set_cons_succ]
    refine late.take (i := 18) [19] (v := ?_) rfl (by kernel_rfl) (by kernel_rfl) (by kernel_rfl) (by kernel_rfl) (fun _ _ _ h => h) (Or.inl ⟨by rfl, ?_⟩) (by assumption) ?_
    rotate_left 1
    · intro w' hSw
      try dsimp only at hSw
      go_simp
      try with_reducible rfl
    try simp only [List.getElem_toArray, List.getElem_cons_zero, List.getElem_cons_succ, Act.put, List.setIfInBounds_toArray, List.set_cons_zero, List.set_cons_succ]
    refine late.take (i := 19) [] (v := ?_) rfl (by kernel_rfl) (by kernel_rfl) (by kernel_rfl) (by kernel_rfl) (fun _ _ _ h => h) (Or.inl ⟨by rfl, ?_⟩) (by assumption) ?_
    rotate_left 1
    · intro w' hSw
      try dsimp only at hSw
      go_simp
      try with_reducible rfl
    try simp only [List.getElem_toArray, List.getElem_cons_zero, List.getElem_cons_succ, Act.put, List.setIfInBounds_toArray, List.set_cons_zero, List.set_cons_succ]
    refine late.done (by kernel_rfl) ?_ _
    refine NoPanic.normal ?_
    obtain ⟨ra, rc, rfl, hra, hrc, hrb⟩ := HVA.out.form HPI.out (by rw [HK1.out]; omega)
    obtain ⟨sa, sc, rfl, hsa, hsc, hsb⟩ := HVB.out.form HLI.out (by rw [HK2.out]; omega)
    have HEND := Lib.hid (show ListsAt w pl ll _ W11 from ⟨ra, rc, sa, sc, rfl, hra, hrc, hsa, hsc, fun y e => by have := HBA.out _ (hrb y e); have := HO1.out.size; omega, fun y e => by have := HBB.out _ (hsb y e); have := HO1.out.size; omega, HO1.out.trans hot.out⟩)
    clear hra hrc hrb hsa hsc hsb HVA HVB HBA HBB hot HD HSL HT1 HT2
    go_wp2_with fail
    go_ret2
    exact HEND.out
end Go.Proofs.Ytfpeimihlihphaa.fnd
