/- Books: new ones; the law's own small calls. -/
import Derived.Test.YtkbaafgaaiekpaaFuI
import Derived.Test.YtkbaafgaaiekpaaStepInt
namespace Go.Proofs.Ytkbaafgaaiekpaa.fnd
open Go.RowKit mem tre
set_option linter.unusedVariables false

theorem bzero : Try.zeroCells97.toList = av A0 := by kernel_rfl
theorem BkAt.fresh {cs : Array Value} (hc : cs.toList = av A0) (w : World) (t : TypeId) : BkAt (w.alloc (.cells cs t)) w.heap.size A0 := by
  refine ⟨fun k hk => AcAt.iff.2 fun c hcc => ?_, fun j hj => alloc_froz _ _ _ _ _ rfl⟩
  rw [Go.Joins.cell_of_block (cs := cs) (t := t) (fr := (0, 0)) (by rw [heap_alloc, if_pos rfl])]
  rw [← av_get A0 k c (by simpa [A0] using hk) hcc, ← hc, Array.getElem?_toList]
theorem bnew_any (w : World) : Calls Try.prog 24 #[] w fun e w' => e = .returned (.pointer (some ⟨w.heap.size, 0, none⟩)) ∧ BkAt w' w.heap.size A0 ∧ Only (fun _ => False) w w' := by
  have H : Hid (BkAt (w.alloc (.cells Try.zeroCells97 97)) w.heap.size A0) := Lib.hid (BkAt.fresh bzero w _)
  have HO : Hid (∀ o, Only (fun _ => False) w (w.alloc o)) := Lib.hid (fun o => (Only.refl _ _).alloc o)
  go_enter Try.func24, Try.ntmps24
  go_wp2_with fail
  go_ret
  exact ⟨rfl, H.out, HO.out _⟩
theorem Right.left_M {a : Ac} (h : Right a) : left a ≤ 9007199254740992 := by
  obtain ⟨⟨⟨a1, a2⟩, ⟨b1, b2⟩, ⟨c1, c2⟩, ⟨d1, d2⟩, ⟨g1, g2⟩⟩, hs, hl⟩ := h
  unfold left
  omega
theorem Bok.shT {dh du : Int} (hd : dh + du ≤ 0) : ∀ (l : List Int) (A : List Ac), Bok A → (∀ i, i < l.length → NodeOk (l.getD i 0)) → l.Nodup → badB A dh du l = false → Bok (shT A l dh du) := by
  intro l
  induction l with
  | nil => intro A h _ _ _; exact h
  | cons n r ih =>
    intro A h hn hnd hb
    obtain ⟨n1, n2⟩ : NodeOk n := hn 0 (by simp)
    unfold badB at hb
    rw [List.any_cons, Bool.or_eq_false_iff] at hb
    obtain ⟨hb1, hb2⟩ := hb
    have hr := h.ok n.toNat
    have hr' : Right (nd A n) := hr
    rw [List.nodup_cons] at hnd
    have hok : Bok (A.set n.toNat (shB (nd A n) dh du)) := by
      refine h.set (by omega) (by omega) ?_
      simp only [Bool.or_eq_false_iff, decide_eq_false_iff_not] at hb1
      generalize nd A n = a at *
      obtain ⟨at_, ac, ae, au, ah⟩ := a
      obtain ⟨⟨⟨a1, a2⟩, ⟨b1, b2⟩, ⟨c1, c2⟩, ⟨d1, d2⟩, ⟨g1, g2⟩⟩, hs, hl⟩ := hr'
      unfold left at hl
      dsimp only at a1 a2 b1 b2 c1 c2 d1 d2 g1 g2 hs hl hb1
      unfold shB
      dsimp only
      refine ⟨⟨⟨a1, a2⟩, ⟨b1, b2⟩, ⟨c1, c2⟩, ⟨?_, ?_⟩, ⟨?_, ?_⟩⟩, hs, ?_⟩
      all_goals first | (show 0 ≤ left _; unfold left; dsimp only; omega) | (dsimp only; omega)
    refine ih _ hok (fun i hi => hn (i + 1) (by simpa using hi)) hnd.2 ?_
    rw [← hb2]
    unfold badB
    have hcong : ∀ m ∈ r, ((decide ((nd (A.set n.toNat (shB (nd A n) dh du)) m).h + dh < 0) || decide ((nd (A.set n.toNat (shB (nd A n) dh du)) m).u + du < 0)) = (decide ((nd A m).h + dh < 0) || decide ((nd A m).u + du < 0))) := by
      intro m hm
      have hne : m.toNat ≠ n.toNat := by
        intro e
        obtain ⟨j, hj, hj2⟩ := List.mem_iff_getElem.1 hm
        have hmn := hn (j + 1) (by simpa using hj)
        have e2 : (n :: r).getD (j + 1) 0 = m := by rw [← hj2]; simp [List.getD, hj]
        rw [e2] at hmn
        obtain ⟨m1, m2⟩ := hmn
        have : m = n := by omega
        rw [this] at hm
        exact hnd.1 hm
      have e3 : nd (A.set n.toNat (shB (nd A n) dh du)) m = nd A m := by unfold nd; simp [List.getD, Ne.symm hne]
      rw [e3]
    rw [Bool.eq_iff_iff, List.any_eq_true, List.any_eq_true]
    exact ⟨fun ⟨m, hm, q⟩ => ⟨m, hm, by rw [← hcong m hm]; exact q⟩, fun ⟨m, hm, q⟩ => ⟨m, hm, by rw [hcong m hm]; exact q⟩⟩
theorem PathOk.nodup {l : List Int} (h : PathOk l) : l.Nodup := by
  unfold List.Nodup
  rw [List.pairwise_iff_getElem]
  intro i j hi hj hij e3
  have h2 := (h.2 j hj).2
  have e1 : l.getD j 0 = l[j] := by simp [List.getD, hj]
  have : l.getD j 0 ∈ l.take j := by
    rw [e1, ← e3]
    have hit : i < (l.take j).length := by rw [List.length_take]; omega
    have : l[i] = (l.take j)[i] := by rw [List.getElem_take]
    rw [this]; exact List.getElem_mem _
  rw [← List.contains_iff_mem, h2] at this
  cases this
theorem Bok.shA {A : List Ac} (h : Bok A) (l : List Int) (x : Int) {dh du : Int} (hd : AmtOk x → dh + du ≤ 0) : Bok (shA A l x dh du) := by
  unfold fnd.shA
  by_cases e : shE A l x dh du = 0
  · rw [if_pos e]
    unfold shE at e
    by_cases q : PathOk l ∧ AmtOk x
    · rw [if_pos q] at e
      have hb : badB A dh du l = false := by
        by_cases hb : badB A dh du l = true
        · rw [if_pos hb] at e; simp at e
        · simpa using hb
      exact Bok.shT (hd q.2) l A h (fun i hi => (q.1.2 i hi).1) q.1.nodup hb
    · rw [if_neg q] at e; simp at e
  · rw [if_neg e]; exact h
theorem holdR_ok {A : List Ac} {x : Int} : ∀ (l ls : List Int), l.length = ls.length → holdR A x l ls = 0 → ∀ n ∈ l, x ≤ left (nd A n) := by
  intro l
  induction l with
  | nil => intro ls _ _ n hn; cases hn
  | cons n r ih =>
    intro ls hl he m hm
    cases ls with
    | nil => simp at hl
    | cons k rs =>
      unfold holdR at he
      by_cases h1 : left (nd A n) < x
      · rw [if_pos h1] at he; simp at he
      · rw [if_neg h1] at he
        split at he
        · simp at he
        · rcases List.mem_cons.1 hm with rfl | hm
          · omega
          · exact ih rs (by simpa using hl) he m hm
theorem Bok.shH {x : Int} (hx : 1 ≤ x) : ∀ (l : List Int) (A : List Ac), Bok A → (∀ i, i < l.length → NodeOk (l.getD i 0)) → l.Nodup → (∀ n ∈ l, x ≤ left (nd A n)) → Bok (fnd.shT A l x 0) := by
  intro l
  induction l with
  | nil => intro A h _ _ _; exact h
  | cons n r ih =>
    intro A h hn hnd hb
    obtain ⟨n1, n2⟩ : NodeOk n := hn 0 (by simp)
    have hr' : Right (nd A n) := h.ok n.toNat
    have hb1 := hb n List.mem_cons_self
    rw [List.nodup_cons] at hnd
    have hok : Bok (A.set n.toNat (shB (nd A n) x 0)) := by
      refine h.set (by omega) (by omega) ?_
      generalize nd A n = a at *
      obtain ⟨at_, ac, ae, au, ah⟩ := a
      obtain ⟨⟨⟨a1, a2⟩, ⟨b1, b2⟩, ⟨c1, c2⟩, ⟨d1, d2⟩, ⟨g1, g2⟩⟩, hs, hl⟩ := hr'
      unfold left at hl hb1
      dsimp only at a1 a2 b1 b2 c1 c2 d1 d2 g1 g2 hs hl hb1
      unfold shB
      dsimp only
      refine ⟨⟨⟨a1, a2⟩, ⟨b1, b2⟩, ⟨c1, c2⟩, ⟨?_, ?_⟩, ⟨?_, ?_⟩⟩, hs, ?_⟩
      all_goals first | (show 0 ≤ left _; unfold left; dsimp only; omega) | (dsimp only; omega)
    refine ih _ hok (fun i hi => hn (i + 1) (by simpa using hi)) hnd.2 (fun m hm => ?_)
    have hne : m.toNat ≠ n.toNat := by
      intro e
      obtain ⟨j, hj, hj2⟩ := List.mem_iff_getElem.1 hm
      have hmn := hn (j + 1) (by simpa using hj)
      have e2 : (n :: r).getD (j + 1) 0 = m := by rw [← hj2]; simp [List.getD, hj]
      rw [e2] at hmn
      obtain ⟨m1, m2⟩ := hmn
      have : m = n := by omega
      rw [this] at hm
      exact hnd.1 hm
    have e3 : nd (A.set n.toNat (shB (nd A n) x 0)) m = nd A m := by unfold nd; simp [List.getD, Ne.symm hne]
    rw [e3]
    exact hb m (List.mem_cons_of_mem _ hm)
theorem Bok.holdA {A : List Ac} (h : Bok A) (l ls : List Int) (x : Int) : Bok (holdA A l ls x) := by
  unfold fnd.holdA
  by_cases e : holdE A l ls x = 0
  · rw [if_pos e]
    unfold holdE at e
    by_cases q : (PathOk l ∧ ls.length = l.length ∧ LOk ls ls.length) ∧ AmtOk x
    · rw [if_pos q] at e
      exact Bok.shH q.2.1 l A h (fun i hi => (q.1.1.2 i hi).1) q.1.1.nodup (holdR_ok l ls q.1.2.1.symm e)
    · rw [if_neg q] at e; simp at e
  · rw [if_neg e]; exact h
theorem take_min5 {l : List Int} {n : Nat} (h : l.length = n) : l.take 5 = l.take (min n 5) := by
  by_cases h5 : n ≤ 5
  · rw [Nat.min_eq_left h5, List.take_of_length_le (by omega), List.take_of_length_le (by omega)]
  · rw [Nat.min_eq_right (by omega)]
/-- what lists hands back: two rows of the call's own -/
def ListsAt (w : World) (pl ll : List Int) (e : Ending) (w' : World) : Prop := ∃ a1 c1 a2 c2, e = .returned (.tuple #[.slice a1 (pl.take 5).length c1, .slice a2 (ll.take 5).length c2]) ∧ ReadsI w' a1 (pl.take 5).length (pl.take 5) ∧ (pl.take 5).length ≤ c1 ∧ ReadsI w' a2 (ll.take 5).length (ll.take 5) ∧ (ll.take 5).length ≤ c2 ∧ (∀ y, a1 = some y → w.heap.size ≤ y.block) ∧ (∀ y, a2 = some y → w.heap.size ≤ y.block) ∧ Only (fun _ => False) w w'
def aggAct (what node : Int) (pa : Option Addr) (pn pc : Nat) (la : Option Addr) (ln lc : Nat) (amt : Int) (carry : Bool) (x : Ac) : Value :=
  .agg #[.int .i64 what, .int .i64 node, .slice pa pn pc, .slice la ln lc, .int .i64 amt, .bool carry, .int .i64 x.t, .int .i64 x.c, .int .i64 x.e, .int .i64 x.u, .int .i64 x.h]
end Go.Proofs.Ytkbaafgaaiekpaa.fnd
