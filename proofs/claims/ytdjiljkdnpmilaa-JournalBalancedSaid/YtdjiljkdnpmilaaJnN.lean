/- The journal's Moved; Post, whatever comes; sums of rows. -/
import Derived.Test.YtdjiljkdnpmilaaJnM
import Derived.Test.YtdjiljkdnpmilaaAcP
namespace Go.Proofs.Ytdjiljkdnpmilaa.jnw
open Go.RowKit mem accm accn entw entm acck
set_option linter.unusedVariables false

/-- what an account was moved in a period -/
def movV (C : Ac → Option (List Int)) (op : Nat) (a : Ac) (per : Int) : Int := if per < 0 ∨ (op : Int) < per then 0 else ((C a).getD noughts).getD per.toNat 0
set_option maxRecDepth 100000 in
set_option maxHeartbeats 2000000 in
theorem moved_any (p op : Nat) (v : Value) (m : Option Nat) (nn : Nat) (C : Ac → Option (List Int)) (k n g : Int) (ha : InA ⟨k, n, g⟩) (per : Int) (w : World) (h : JnC w p v op m) (hm : MapN w m nn C) :
    Calls Try.prog 21 #[.pointer (some ⟨p, 0, none⟩), .agg #[.int .i64 k, .int .i64 n, .int .i64 g], .int .i64 per] w fun e w' => e = .returned (.int .i64 (movV C op ⟨k, n, g⟩ per)) ∧ Only (fun _ => False) w w' := by
  have HRW := Lib.hid (hm.row ⟨k, n, g⟩)
  obtain ⟨w1, hw1⟩ : ∃ x, x = w.alloc (.cells #[.int .i64 k, .int .i64 n, .int .i64 g] 38) := ⟨_, rfl⟩
  obtain ⟨q, hq⟩ : ∃ x, x = w.heap.size := ⟨_, rfl⟩
  have ho1 : Only (fun _ => False) w w1 := by rw [hw1]; exact (Only.refl _ w).alloc _
  have c1 : w1.cell? ⟨p, 1, none⟩ = some (.int .i64 (op : Int)) := ho1.cell' h.c1 (fun f => f)
  have HF : Hid (∀ w', Only (fun _ => False) w1 w' → w'.cell? ⟨p, 2, none⟩ = some (.map m) ∧ w'.cell? ⟨q, 0, none⟩ = some (.int .i64 k) ∧ w'.cell? ⟨q, 1, none⟩ = some (.int .i64 n) ∧ w'.cell? ⟨q, 2, none⟩ = some (.int .i64 g)) := Lib.hid (fun w' ho =>
    ⟨(ho1.trans ho).cell' h.c2 (fun f => f), ho.cell' (by rw [hw1]; exact alloc_new _ _ _ _ _ _ hq rfl) (fun f => f), ho.cell' (by rw [hw1]; exact alloc_new _ _ _ _ _ _ hq rfl) (fun f => f), ho.cell' (by rw [hw1]; exact alloc_new _ _ _ _ _ _ hq rfl) (fun f => f)⟩)
  have HLK : Hid (∀ w', Only (fun _ => False) w1 w' → (Instr.lookup 81 (.map m) (.agg #[.int .i64 k, .int .i64 n, .int .i64 g]) false).run Try.prog w' = .ok (sec ((C ⟨k, n, g⟩).getD noughts)) w') := Lib.hid (fun w' ho => by
    have h := (hm.only (ho1.trans ho) (fun _ _ f => f)).look ha
    unfold acc accm.accV at h
    exact h)
  have HO1 := Lib.hid ho1
  have hop := h.le
  clear h hm ha ho1
  by_cases hlo : per < 0
  · have hr : movV C op ⟨k, n, g⟩ per = 0 := by unfold movV; rw [if_pos (.inl hlo)]
    rw [hr]
    clear hr
    go_enter Try.func21, Try.ntmps21
    go_upto_region 1 with fail
    simp only [← hw1, ← hq]
    clear hw1 hq
    go_wp2_with fail
    go_ret
    exact ⟨rfl, HO1.out⟩
  · by_cases hhi : (op : Int) < per
    · have hr : movV C op ⟨k, n, g⟩ per = 0 := by unfold movV; rw [if_pos (.inr hhi)]
      rw [hr]
      clear hr
      go_enter Try.func21, Try.ntmps21
      go_upto_region 1 with fail
      simp only [← hw1, ← hq]
      clear hw1 hq
      go_wp2_with fail
      go_ret
      exact ⟨rfl, HO1.out⟩
    · obtain ⟨j, rfl⟩ : ∃ j : Nat, per = j := ⟨per.toNat, by omega⟩
      have hj : j < 32 := by omega
      have hr : movV C op ⟨k, n, g⟩ (j : Int) = ((C ⟨k, n, g⟩).getD noughts).getD j 0 := by unfold movV; rw [if_neg (by omega)]; rfl
      rw [hr]
      have HIX : Hid (∀ w, _) := Lib.hid (fun w => run_index_row ((C ⟨k, n, g⟩).getD noughts) j HRW.out.1 hj w)
      generalize (C ⟨k, n, g⟩).getD noughts = l at *
      unfold sec at HLK HIX
      clear hr hlo
      have hlo : ¬ (j : Int) < 0 := by omega
      go_enter Try.func21, Try.ntmps21
      go_upto_region 1 with fail
      simp only [← hw1, ← hq]
      clear hw1 hq
      go_upto_region 3 with fail
      clear c1 hlo hhi
      refine wp_region_noPanic ?_
      refine late.region (fun w' => w'.cell? ⟨p, 2, none⟩ = some (.map m) ∧ w'.cell? ⟨q, 0, none⟩ = some (.int .i64 k) ∧ w'.cell? ⟨q, 1, none⟩ = some (.int .i64 n) ∧ w'.cell? ⟨q, 2, none⟩ = some (.int .i64 g)) (fun j => [].contains j) (by kernel_rfl) (HF.out _ (Only.refl _ _).drew) (fun hHeld => ?_)
      obtain ⟨z0, hz0⟩ : ∃ x, x = w1.drew := ⟨_, rfl⟩
      rw [← hz0] at hHeld ⊢
      have hot : Hid (Only (fun _ => False) w1 z0) := Lib.hid (by rw [hz0]; exact (Only.refl _ _).drew)
      clear hz0
      refine late.take (i := 0) [1, 2, 3, 5, 7, 8] (v := ?_) rfl (by kernel_rfl) (by kernel_rfl) (by kernel_rfl) (by kernel_rfl) (fun _ _ _ h => h) (Or.inl ⟨by rfl, ?_⟩) (by assumption) ?_
      rotate_left 1
      · intro w' hSw
        try dsimp only at hSw
        go_simp
        try with_reducible rfl
      try simp only [List.getElem_toArray, List.getElem_cons_zero, Act.put, List.setIfInBounds_toArray, List.set_cons_zero, List.set_cons_succ]
      refine late.take (i := 1) [2, 3, 5, 7, 8] (v := ?_) rfl (by kernel_rfl) (by kernel_rfl) (by kernel_rfl) (by kernel_rfl) (fun _ _ _ h => h) (Or.inl ⟨by rfl, ?_⟩) (by assumption) ?_
      rotate_left 1
      · intro w' hSw
        try dsimp only at hSw
        go_simp
        try with_reducible rfl
      try simp only [List.getElem_toArray, List.getElem_cons_zero, List.getElem_cons_succ, Act.put, List.setIfInBounds_toArray, List.set_cons_zero, List.set_cons_succ]
      refine late.take (i := 2) [3, 5, 7, 8] (v := ?_) rfl (by kernel_rfl) (by kernel_rfl) (by kernel_rfl) (by kernel_rfl) (fun _ _ _ h => h) (Or.inl ⟨by rfl, ?_⟩) (by assumption) ?_
      rotate_left 1
      · intro w' hSw
        try dsimp only at hSw
        go_simp
        try with_reducible rfl
      try simp only [List.getElem_toArray, List.getElem_cons_zero, List.getElem_cons_succ, Act.put, List.setIfInBounds_toArray, List.set_cons_zero, List.set_cons_succ]
      refine late.take (i := 3) [5, 7, 8] (v := ?_) rfl (by kernel_rfl) (by kernel_rfl) (by kernel_rfl) (by kernel_rfl) (fun _ _ _ h => h) (Or.inl ⟨by rfl, ?_⟩) (by assumption) ?_
      rotate_left 1
      · intro w' hSw
        try dsimp only at hSw
        go_simp
        try with_reducible rfl
      try simp only [List.getElem_toArray, List.getElem_cons_zero, List.getElem_cons_succ, Act.put, List.setIfInBounds_toArray, List.set_cons_zero, List.set_cons_succ]
      refine late.take (i := 4) [5, 7, 8] (v := ?_) rfl (by kernel_rfl) (by kernel_rfl) (by kernel_rfl) (by kernel_rfl) (fun _ _ _ h => h) (Or.inl ⟨by rfl, ?_⟩) (by assumption) ?_
      rotate_left 1
      · intro w' hSw
        try dsimp only at hSw
        go_simp
        try with_reducible rfl
      try simp only [List.getElem_toArray, List.getElem_cons_zero, List.getElem_cons_succ, Act.put, List.setIfInBounds_toArray, List.set_cons_zero, List.set_cons_succ]
      refine late.take (i := 6) [7, 8] (v := ?_) rfl (by kernel_rfl) (by kernel_rfl) (by kernel_rfl) (by kernel_rfl) (fun _ _ _ h => h) (Or.inl ⟨by rfl, ?_⟩) (by assumption) ?_
      rotate_left 1
      · intro w' hSw
        try dsimp only at hSw
        go_simp
        try with_reducible rfl
      try simp only [List.getElem_toArray, List.getElem_cons_zero, List.getElem_cons_succ, Act.put, List.setIfInBounds_toArray, List.set_cons_zero, List.set_cons_succ]
      refine late.ready (rs := [5]) (by kernel_rfl) (by simp) ?_
      refine late.Each.cons rfl (fun K hK => ?_) late.Each.nil
      have hlk := HLK.out z0 hot.out
      try simp only [List.getElem_toArray, List.getElem_cons_zero, List.getElem_cons_succ]
      go_simp
      refine hK.out _ _ (fun _ => HF.out _ hot.out) (fun hHeld1 => ?_)
      replace hHeld1 := hHeld1 rfl
      clear hK K
      clear hlk
      have hix := HIX.out
      try simp only [List.getElem_toArray, List.getElem_cons_zero, List.getElem_cons_succ, Act.put, List.setIfInBounds_toArray, List.set_cons_zero, List.set_cons_succ]
      refine late.take (i := 7) [8] (v := ?_) rfl (by kernel_rfl) (by kernel_rfl) (by kernel_rfl) (by kernel_rfl) (fun _ _ _ h => h) (Or.inl ⟨by rfl, ?_⟩) (by assumption) ?_
      rotate_left 1
      · intro w' hSw
        try dsimp only at hSw
        go_simp
        try with_reducible rfl
      try simp only [List.getElem_toArray, List.getElem_cons_zero, List.getElem_cons_succ, Act.put, List.setIfInBounds_toArray, List.set_cons_zero, List.set_cons_succ]
      refine late.take (i := 8) [] (v := ?_) rfl (by kernel_rfl) (by kernel_rfl) (by kernel_rfl) (by kernel_rfl) (fun _ _ _ h => h) (Or.inl ⟨by rfl, ?_⟩) (by assumption) ?_
      rotate_left 1
      · intro w' hSw
        try dsimp only at hSw
        go_simp
        try with_reducible rfl
      try simp only [List.getElem_toArray, List.getElem_cons_zero, List.getElem_cons_succ, Act.put, List.setIfInBounds_toArray, List.set_cons_zero, List.set_cons_succ]
      refine late.done (by kernel_rfl) ?_ _
      refine NoPanic.normal ?_
      have HO2 := Lib.hid (HO1.out.trans hot.out)
      go_wp2_with fail
      go_ret
      exact ⟨rfl, HO2.out⟩

open Classical in
/-- why an entry isn't posted; nought: it is -/
noncomputable def pErr (C : Ac → Option (List Int)) (kind : Int) (ls : List Lg) : Int := if chk kind ls ≠ 0 then chk kind ls else if ∃ j, j < ls.length ∧ overL C (ls.getD j default) then 6 else 0
def PostAt (S : Nat → Prop) (p op : Nat) (v : Value) (m : Option Nat) (nn : Nat) (C : Ac → Option (List Int)) (L : List Ps) (kind : Int) (n : Nat) (ls : List Lg) (w : World) (e : Ending) (w' : World) : Prop :=
  (pErr C kind ls ≠ 0 ∧ e = .returned (.tuple #[.int .i64 0, .int .i64 (pErr C kind ls)]) ∧ Only (fun _ => False) w w') ∨
  (pErr C kind ls = 0 ∧ chk kind ls = 0 ∧ e = .returned (.tuple #[.int .i64 (L.length : Int), .int .i64 0]) ∧ (∃ v' m' nn' g cp, JnAt (fun q => S q ∨ w.heap.size ≤ q) w' p v' op m' nn' (addC C op ls) (L ++ [⟨kind, g, n, cp, op, ls⟩])) ∧ Only S w w')
theorem post_any {S : Nat → Prop} (p op : Nat) (v : Value) (m : Option Nat) (nn : Nat) (C : Ac → Option (List Int)) (L : List Ps) (kind : Int) (a : Option Addr) (n cap : Nat) (ls : List Lg) (w : World) (h : JnAt S w p v op m nn C L) (hr : ReadsL w a n ls) (hn0 : L.length < 16384) (ha : ∀ x, a = some x → ¬ S x.block) :
    Calls Try.prog 13 #[.pointer (some ⟨p, 0, none⟩), .agg #[.int .i64 kind, .slice a n cap]] w (PostAt S p op v m nn C L kind n ls w) := by
  by_cases hc : chk kind ls = 0
  · by_cases ho : ∃ j, j < ls.length ∧ overL C (ls.getD j default)
    · have he : pErr C kind ls = 6 := by unfold pErr; rw [if_neg (by simpa using hc), if_pos ho]
      obtain ⟨a0, c0, rfl, -⟩ := h.own.reads
      refine (post_over p op a0 L.length c0 m nn C kind a n cap ls w h.jc h.mp hr hc hn0 (by rw [← hr.1]; exact ho)).mono ?_
      rintro e w' ⟨rfl, ho⟩
      exact .inl ⟨by rw [he]; decide, by rw [he], ho⟩
    · have he : pErr C kind ls = 0 := by unfold pErr; rw [if_neg (by simpa using hc), if_neg ho]
      refine (post_yes p op v m nn C L kind a n cap ls w h hr hc hn0 (fun j hj hov => ho ⟨j, by rw [hr.1]; exact hj, hov⟩) ha).mono ?_
      rintro e w' ⟨rfl, v', m', nn', g, cp, h1, h2⟩
      exact .inr ⟨he, hc, rfl, ⟨v', m', nn', g, cp, h1⟩, h2⟩
  · have he : pErr C kind ls = chk kind ls := by unfold pErr; rw [if_pos hc]
    refine (post_no p kind a n cap ls w hr hc).mono ?_
    rintro e w' ⟨rfl, ho⟩
    exact .inl ⟨by rw [he]; exact hc, by rw [he], ho⟩

theorem sum_set : ∀ (l : List Int) (k : Nat) (y : Int), k < l.length → (l.set k y).sum = l.sum - l.getD k 0 + y := by
  intro l
  induction l with
  | nil => intro k y h; simp at h
  | cons x r ih =>
    intro k y h
    cases k with
    | zero => simp [List.getD]; omega
    | succ k =>
      have := ih k y (by simpa using h)
      rw [List.set_cons_succ, List.sum_cons, this, List.sum_cons]
      simp [List.getD]
      omega
def rsum (C : Ac → Option (List Int)) (a : Ac) : Int := ((C a).getD noughts).sum
def tot (C : Ac → Option (List Int)) (K : List Ac) : Int := (K.map (rsum C)).sum
/-- K is all accounts on which something stands; together they come to s -/
def InvK (C : Ac → Option (List Int)) (K : List Ac) (s : Int) : Prop := K.Nodup ∧ (∀ i, i ∈ K ↔ (C i).isSome = true) ∧ (tot C K - s) % 18446744073709551616 = 0
theorem rowAdd_sum {r : List Int} (hr : r.length = 32) {op : Nat} (h : op < 32) (x : Int) : ((rowAdd r op x).sum - (r.sum + x)) % 18446744073709551616 = 0 := by
  unfold rowAdd
  rw [sum_set r op _ (by omega)]
  unfold wrap64
  omega
theorem tot_ne {C : Ac → Option (List Int)} {a : Ac} {l : List Int} : ∀ {K : List Ac}, a ∉ K → tot (updA C a l) K = tot C K := by
  intro K
  induction K with
  | nil => intro _; rfl
  | cons x r ih =>
    intro h
    rw [List.mem_cons, not_or] at h
    unfold tot at ih ⊢
    rw [List.map_cons, List.map_cons, List.sum_cons, List.sum_cons, ih h.2]
    have : rsum (updA C a l) x = rsum C x := by unfold rsum updA; rw [if_neg (fun e => h.1 e.symm)]
    rw [this]
theorem tot_in {C : Ac → Option (List Int)} {a : Ac} {l : List Int} : ∀ {K : List Ac}, K.Nodup → a ∈ K → tot (updA C a l) K = tot C K - rsum C a + l.sum := by
  intro K
  induction K with
  | nil => intro _ h; cases h
  | cons x r ih =>
    intro hn h
    rw [List.nodup_cons] at hn
    by_cases e : a = x
    · subst e
      have h1 := tot_ne (C := C) (a := a) (l := l) hn.1
      unfold tot at h1 ⊢
      rw [List.map_cons, List.map_cons, List.sum_cons, List.sum_cons, h1]
      have : rsum (updA C a l) a = l.sum := by unfold rsum updA; rw [if_pos rfl]; rfl
      rw [this]
      omega
    · have h1 := ih hn.2 ((List.mem_cons.1 h).resolve_left e)
      unfold tot at h1 ⊢
      rw [List.map_cons, List.map_cons, List.sum_cons, List.sum_cons, h1]
      have : rsum (updA C a l) x = rsum C x := by unfold rsum updA; rw [if_neg (fun e2 => e e2.symm)]
      rw [this]
      omega
theorem InvK.upd {C : Ac → Option (List Int)} {K : List Ac} {s : Int} (h : InvK C K s) (hrow : ∀ a, ((C a).getD noughts).length = 32) {op : Nat} (hop : op < 32) (a : Ac) (x : Int) : ∃ K', InvK (updA C a (rowAdd ((C a).getD noughts) op x)) K' (s + x) := by
  obtain ⟨h1, h2, h3⟩ := h
  have hs := rowAdd_sum (hrow a) hop x
  have hmem : ∀ i, ((updA C a (rowAdd ((C a).getD noughts) op x)) i).isSome = true ↔ i = a ∨ (C i).isSome = true := by
    intro i
    unfold updA
    by_cases e : i = a
    · rw [if_pos e]; simp [e]
    · rw [if_neg e]; simp [e]
  by_cases ha : a ∈ K
  · refine ⟨K, h1, fun i => ?_, ?_⟩
    · rw [hmem, h2]
      constructor
      · exact .inr
      · rintro (e | e)
        · rw [e]; exact (h2 a).1 ha
        · exact e
    · rw [tot_in h1 ha]
      have : rsum C a = ((C a).getD noughts).sum := rfl
      omega
  · refine ⟨a :: K, List.nodup_cons.2 ⟨ha, h1⟩, fun i => ?_, ?_⟩
    · rw [hmem, List.mem_cons, h2]
    · have hn : C a = none := by
        cases hc : C a with
        | none => rfl
        | some l => exact absurd ((h2 a).2 (by rw [hc]; rfl)) ha
      have e1 : tot (updA C a (rowAdd ((C a).getD noughts) op x)) (a :: K) = (rowAdd ((C a).getD noughts) op x).sum + tot C K := by
        have h4 := tot_ne (C := C) (a := a) (l := rowAdd ((C a).getD noughts) op x) ha
        unfold tot at h4 ⊢
        rw [List.map_cons, List.sum_cons, h4]
        have : rsum (updA C a (rowAdd ((C a).getD noughts) op x)) a = (rowAdd ((C a).getD noughts) op x).sum := by unfold rsum; unfold updA; rw [if_pos rfl]; rfl
        rw [this]
      have e2 : ((C a).getD noughts).sum = 0 := by rw [hn]; exact noughts_sum
      rw [e1]
      omega
theorem updA_len {C : Ac → Option (List Int)} (h : ∀ a, ((C a).getD noughts).length = 32) (b : Ac) (op : Nat) (x : Int) : ∀ a, (((updA C b (rowAdd ((C b).getD noughts) op x)) a).getD noughts).length = 32 := by
  intro a
  unfold updA
  by_cases e : a = b
  · rw [if_pos e]; simp [rowAdd, h b]
  · rw [if_neg e]; exact h a
def amts (ls : List Lg) : Int := (ls.map (·.a)).sum
theorem InvK.add {op : Nat} (hop : op < 32) : ∀ (ls : List Lg) {C : Ac → Option (List Int)} {K : List Ac} {s : Int}, InvK C K s → (∀ a, ((C a).getD noughts).length = 32) → ∃ K', InvK (addC C op ls) K' (s + amts ls) := by
  intro ls
  induction ls with
  | nil => intro C K s h _; exact ⟨K, by simpa [amts, addC] using h⟩
  | cons l r ih =>
    intro C K s h hr
    obtain ⟨K1, h1⟩ := h.upd hr hop (lgA l) l.a
    obtain ⟨K2, h2⟩ := ih h1 (updA_len hr (lgA l) op l.a)
    exact ⟨K2, by
      have e : s + amts (l :: r) = s + l.a + amts r := by simp [amts]; omega
      rw [e]; exact h2⟩
theorem InvK.nil : InvK (fun _ => none) [] 0 := ⟨List.nodup_nil, fun i => by simp, by simp [tot]⟩
/-- nothing stands behind the open period -/
def InvR (C : Ac → Option (List Int)) (op : Nat) : Prop := ∀ a p, op < p → ((C a).getD noughts).getD p 0 = 0
theorem rep_get (n p : Nat) : (List.replicate n (0 : Int)).getD p 0 = 0 := by
  simp only [List.getD, List.getElem?_replicate]
  split <;> rfl
theorem InvR.nil (op : Nat) : InvR (fun _ => none) op := fun a p _ => rep_get 32 p
theorem InvR.add {op : Nat} : ∀ (ls : List Lg) {C : Ac → Option (List Int)}, InvR C op → InvR (addC C op ls) op := by
  intro ls
  induction ls with
  | nil => intro C h; exact h
  | cons l r ih =>
    intro C h
    refine ih (fun a p hp => ?_)
    unfold updA
    by_cases e : a = lgA l
    · rw [if_pos e]
      show (rowAdd ((C (lgA l)).getD noughts) op l.a).getD p 0 = 0
      unfold rowAdd
      have := h (lgA l) p hp
      simp only [List.getD] at this ⊢
      rw [List.getElem?_set_ne (by omega)]
      exact this
    · rw [if_neg e]; exact h a p hp
theorem InvR.close {C : Ac → Option (List Int)} {op : Nat} (h : InvR C op) : InvR C (op + 1) := fun a p hp => h a p (by omega)
theorem take_all {r : List Int} {k : Nat} (h : ∀ p, k ≤ p → r.getD p 0 = 0) : (r.take k).sum = r.sum := by
  induction r generalizing k with
  | nil => simp
  | cons x t ih =>
    cases k with
    | zero =>
      have h0 : x = 0 := h 0 (Nat.le_refl _)
      have h1 := ih (k := 0) (fun p _ => by have := h (p + 1) (by omega); simpa [List.getD] using this)
      rw [List.sum_cons, ← h1, h0]; simp
    | succ k =>
      rw [List.take_succ_cons, List.sum_cons, List.sum_cons, ih (fun p hp => by have := h (p + 1) (by omega); simpa [List.getD] using this)]
theorem perm_sum {a b : List Int} (h : a.Perm b) : a.sum = b.sum := by
  induction h with
  | nil => rfl
  | cons x _ ih => rw [List.sum_cons, List.sum_cons, ih]
  | swap x y l => simp only [List.sum_cons]; omega
  | trans _ _ ih1 ih2 => rw [ih1, ih2]
theorem keys_tot {C : Ac → Option (List Int)} {K ss : List Ac} {s : Int} (h : InvK C K s) (hs : KeysOf C ss) : (tot C ss - s) % 18446744073709551616 = 0 := by
  have hp : ss.Perm K := (List.perm_ext_iff_of_nodup hs.1 h.1).2 (fun i => (hs.2.1 i).trans (h.2.1 i).symm)
  have : tot C ss = tot C K := by unfold tot; exact perm_sum (hp.map _)
  rw [this]
  exact h.2.2
/-- the debits are the credits -/
theorem trS_diff {x y : Int × Int} {l : Lg} (h : trS x l = some y) : y.1 - y.2 = x.1 - x.2 + l.a := by
  unfold trS at h
  split at h
  · split at h
    · injection h with h; subst h; show x.1 + l.a - x.2 = _; omega
    · cases h
  · split at h
    · injection h with h; subst h; show x.1 - (x.2 - l.a) = _; omega
    · cases h
theorem trL_diff : ∀ (ls : List Lg) {x y : Int × Int}, trL ls x = some y → y.1 - y.2 = x.1 - x.2 + amts ls := by
  intro ls
  induction ls with
  | nil => intro x y h; injection h with h; subst h; simp [amts]
  | cons l r ih =>
    intro x y h
    have h : (trS x l).bind (trL r) = some y := h
    cases hs : trS x l with
    | none => rw [hs] at h; cases h
    | some z =>
      rw [hs] at h
      have h1 := trS_diff hs
      have h2 := ih h
      have e : amts (l :: r) = l.a + amts r := by simp [amts]
      rw [e]; omega
theorem trP_diff (per : Int) : ∀ (L : List Ps), (∀ x ∈ L, amts x.ls = 0) → ∀ {x y : Int × Int}, trP per L x = some y → y.1 - y.2 = x.1 - x.2 := by
  intro L
  induction L with
  | nil => intro _ x y h; injection h with h; subst h; rfl
  | cons p r ih =>
    intro hz x y h
    have h : (if per ≠ -1 ∧ (p.per : Int) ≠ per then trP per r x else (trL p.ls x).bind (trP per r)) = some y := h
    split at h
    · exact ih (fun x hx => hz x (List.mem_cons_of_mem _ hx)) h
    · cases hs : trL p.ls x with
      | none => rw [hs] at h; cases h
      | some z =>
        rw [hs] at h
        have h1 := trL_diff _ hs
        have h2 := ih (fun x hx => hz x (List.mem_cons_of_mem _ hx)) h
        have h3 := hz p (by simp)
        omega
end Go.Proofs.Ytdjiljkdnpmilaa.jnw
