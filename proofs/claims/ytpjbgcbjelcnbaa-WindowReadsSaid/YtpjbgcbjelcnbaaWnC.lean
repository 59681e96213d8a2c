/- Keep of a window. -/
import Derived.Test.YtpjbgcbjelcnbaaWnB
namespace Go.Proofs.Ytpjbgcbjelcnbaa.wnd
open Go.RowKit mem rowz
set_option linter.unusedVariables false

def keepE (K : List Kp) (strict : Bool) (x : Kp) : Int := if lookE K strict x.n x.q = 7 then (if 65536 < x.q.length ∨ 65536 < x.a.length then 5 else 0) else if lookE K strict x.n x.q = 0 then 8 else lookE K strict x.n x.q
def keepK (K : List Kp) (most : Int) (x : Kp) : List Kp := if most < ((K ++ [x]).length : Int) then (K ++ [x]).drop 1 else K ++ [x]
def keepR (K : List Kp) (most : Int) (strict : Bool) (x : Kp) : List Kp := if keepE K strict x = 0 then keepK K most x else K
def Kept (S : Nat → Prop) (p : Nat) (most : Int) (strict : Bool) (w : World) (E : Int) (K' : List Kp) (e : Ending) (w' : World) : Prop := e = .returned (.int .i64 E) ∧ (∃ v' L', L'.map Kd.kp = K' ∧ WnAt (fun q => S q ∨ w.heap.size ≤ q) w' p most strict v' L') ∧ Only S w w'
theorem SlIn.move {S S' T : Nat → Prop} {w w' : World} {p : Nat} {v v' : Value} {a : Option Addr} {n c : Nat} {l : List Nat} (h : SlIn S w p v a n c l) (ho : Only T w w') (hT : ∀ y, a = some y → ¬ T y.block) (hv : ∀ y, a = some y → v'.ownBlock ≠ some y.block) (hS : ∀ q, S q → S' q) : SlIn S' w' p v' a n c l :=
  ⟨h.1.only ho hT, h.2.1, h.2.2.1, fun y e => by obtain ⟨h1, h2, h3, _⟩ := h.2.2.2 y e; exact ⟨by have := ho.size; omega, hS _ h2, h3, hv y e⟩⟩
theorem step_kept {ops : Array Oper} {o : Oper} {a : Act} {w : World} {K : Act → World → Prop} {Q : Exit → Act → World → Prop} {E : Prop}
    (hg : o.guard = none) (s x : Operand) (ho : o.op = Op.call { callee := Callee.builtin Builtin.append, args := #[s, x], argTypes := #[121, 121] })
    (v : Value) (xs : List Kd) (hs : a.eval s = v) (hown : OwnK w v xs) (g c : Nat) (d : Kd) (hx : a.eval x = .slice (some ⟨g, 0, none⟩) 1 c) (hn : ∀ j u, (encK d)[j]? = some u → w.cell? ⟨g, j, none⟩ = some u) (hb : xs.length ≤ 1000)
    (hK : ∀ v' w', OwnK w' v' (xs ++ [d]) → w.grownBy w' v.ownBlock → (∀ k, v'.ownBlock = some k → v.ownBlock = some k ∨ w.heap.size ≤ k) → K (a.put o.dst v') w') :
    if Region.wanted o (yielded ops a.tmps) = true then Oper.wp Try.prog o a w K Q else E := by
  obtain ⟨i0, hi, hz0, hz1, hz2⟩ := info_parts info_kp
  refine step_mine hg s x 121 ho 123 i0 _ 3 56 Try.underlying121 hi hz0 hz1 hz2 rfl (by decide) v xs.length _ hs hown ⟨g, 0, none⟩ 1 c (encK d) hx rfl (fun j u h => by rw [add_none, Nat.zero_add]; exact hn j u h) (fun u hu => kv_one [d] u (by simpa [kv] using hu)) (by unfold maxLen; omega) (by omega) ?_
  intro v' w' h1 h2 h3
  refine hK v' w' ?_ h2 h3
  unfold OwnK
  rw [List.length_append, kv_append]
  have e : kv [d] = encK d := by simp [kv]
  rw [e]
  exact h1
theorem own_ne {S : Nat → Prop} {w : World} {p : Nat} {most : Int} {strict : Bool} {v : Value} {L : List Kd} (h : WnAt S w p most strict v L) : ∀ q, v.ownBlock = some q → q < w.heap.size ∧ q ≠ p := fun q e => ⟨h.own.lt e, fun e2 => h.np (by rw [e, e2])⟩
/-- what was kept stays, with one more behind it -/
theorem kept_more {S : Nat → Prop} {w w9 w' : World} {p : Nat} {most : Int} {strict : Bool} {v v' : Value} {L : List Kd} {d : Kd} (h : WnAt S w p most strict v L) (h09 : Only (fun _ => False) w w9) (h9 : Only (fun q => q = p ∨ v.ownBlock = some q) w9 w')
    (hv : ∀ k, v'.ownBlock = some k → v.ownBlock = some k ∨ w9.heap.size ≤ k)
    (hd1 : Reads w9 d.qa d.qn d.q ∧ Cp d.qa d.qn d.qc ∧ d.qn ≤ 65536) (hd2 : Reads w9 d.aa d.an d.a ∧ Cp d.aa d.an d.ac ∧ d.an ≤ 65536) (hb1 : ∀ y, d.qa = some y → w.heap.size ≤ y.block ∧ y.block < w9.heap.size) (hb2 : ∀ y, d.aa = some y → w.heap.size ≤ y.block ∧ y.block < w9.heap.size) :
    ∀ x ∈ L ++ [d], KdIn (fun q => S q ∨ w.heap.size ≤ q) w' p v' x := by
  have hp := h.lt
  have hown := own_ne h
  have hsz := h09.size
  have hall : Only (fun q => q = p ∨ v.ownBlock = some q) w w' := (h09.mono (fun _ _ f => f.elim)).trans h9
  intro x hx
  rcases List.mem_append.1 hx with hx | hx
  · obtain ⟨k1, k2⟩ := h.kd x hx
    have key : ∀ {a : Option Addr} {n c : Nat} {l : List Nat}, SlIn S w p v a n c l → SlIn (fun q => S q ∨ w.heap.size ≤ q) w' p v' a n c l := fun {a n c l} k => k.move hall (fun y e => by
      obtain ⟨_, _, n1, n2⟩ := k.2.2.2 y e
      exact fun q => q.elim (fun q => n1 q) (fun q => n2 q)) (fun y e q => by
      obtain ⟨m1, _, _, n2⟩ := k.2.2.2 y e
      rcases hv _ q with q | q
      · exact n2 q
      · omega) (fun q s => .inl s)
    exact ⟨key k1, key k2⟩
  · rw [List.mem_singleton] at hx
    subst hx
    have key : ∀ {a : Option Addr} {n c : Nat} {l : List Nat}, (Reads w9 a n l ∧ Cp a n c ∧ n ≤ 65536) → (∀ y, a = some y → w.heap.size ≤ y.block ∧ y.block < w9.heap.size) → SlIn (fun q => S q ∨ w.heap.size ≤ q) w' p v' a n c l := fun {a n c l} k hb => ⟨k.1.only h9 (fun y e q => by
      obtain ⟨m1, m2⟩ := hb y e
      rcases q with q | q
      · omega
      · have := (hown _ q).1; omega), k.2.1, k.2.2, fun y e => by
      obtain ⟨m1, m2⟩ := hb y e
      refine ⟨by have := h9.size; omega, .inr m1, by omega, fun q => ?_⟩
      rcases hv _ q with q | q
      · have := (hown _ q).1; omega
      · omega⟩
    exact ⟨key hd1 hb1, key hd2 hb2⟩
set_option maxRecDepth 100000 in
set_option maxHeartbeats 4000000 in
theorem wkeep_any {S : Nat → Prop} (p : Nat) (most : Int) (strict : Bool) (v : Value) (L : List Kd) (n : Int) (a : Option Addr) (m c : Nat) (q : List Nat) (a2 : Option Addr) (m2 c2 : Nat) (r : List Nat) (w : World) (h : WnAt S w p most strict v L) (hr : Reads w a m q) (hr2 : Reads w a2 m2 r) :
    Calls Try.prog 31 #[.pointer (some ⟨p, 0, none⟩), .int .i64 n, .slice a m c, .slice a2 m2 c2] w (Kept S p most strict w (keepE (L.map Kd.kp) strict ⟨n, q, r⟩) (keepR (L.map Kd.kp) most strict ⟨n, q, r⟩)) := by
  have HWN0 := Lib.hid h
  have HLK := Lib.hid (wlook_any p most strict v L n a m c q w h hr)
  have hl64 : L.length ≤ 64 := by have := h.len; have := h.mo.2; omega
  have HPL := Lib.hid h.lt
  have hql : q.length = m := hr.1
  have hrl : r.length = m2 := hr2.1
  have hmM : m ≤ maxLen := hr.2.1
  have hm2M : m2 ≤ maxLen := hr2.2.1
  unfold maxLen at hmM hm2M
  have HNR0 : Hid (lookE (L.map Kd.kp) strict n q = 7 → 0 ≤ n ∧ n ≤ 4611686018427387904) := Lib.hid (fun e => by
    unfold lookE lookR at e
    by_cases hn : n < 0 ∨ 4611686018427387904 < n
    · rw [if_pos hn] at e; simp at e
    · omega)
  have hEE : keepE (L.map Kd.kp) strict ⟨n, q, r⟩ = if lookE (L.map Kd.kp) strict n q = 7 then (if 65536 < m ∨ 65536 < m2 then 5 else 0) else if lookE (L.map Kd.kp) strict n q = 0 then 8 else lookE (L.map Kd.kp) strict n q := by unfold keepE; dsimp only; rw [hql, hrl]
  have hKR : keepR (L.map Kd.kp) most strict ⟨n, q, r⟩ = if keepE (L.map Kd.kp) strict ⟨n, q, r⟩ = 0 then keepK (L.map Kd.kp) most ⟨n, q, r⟩ else L.map Kd.kp := rfl
  have HNO : Hid (∀ w' E, Only (fun _ => False) w w' → Kept S p most strict w E (L.map Kd.kp) (.returned (.int .i64 E)) w') := Lib.hid (fun w' E ho => ⟨rfl, ⟨v, L, rfl, (HWN0.out.quiet ho).mono (fun q s => .inl s)⟩, ho.mono (fun _ _ f => f.elim)⟩)
  have HR1 := Lib.hid hr
  have HR2 := Lib.hid hr2
  clear h hr hr2 hql hrl
  generalize lookE (L.map Kd.kp) strict n q = E at *
  generalize lookA (L.map Kd.kp) strict n q = A at *
  generalize keepE (L.map Kd.kp) strict ⟨n, q, r⟩ = KE at *
  generalize keepR (L.map Kd.kp) most strict ⟨n, q, r⟩ = KR at *
  by_cases h7 : E = 7
  · subst h7
    rw [if_pos rfl] at hEE
    by_cases hb : 65536 < m ∨ 65536 < m2
    · rw [if_pos hb] at hEE
      subst hEE
      rw [if_neg (by decide)] at hKR
      subst hKR
      by_cases hb1 : 65536 < m
      · have hbi : (65536 : Int) < m := by omega
        clear hb hb1
        go_enter Try.func31, Try.ntmps31
        go_wp2_with fail
        refine HLK.out.mono ?_
        rintro _ w1 ⟨aa, an, ac, rfl, -, -, -, ho⟩
        have HO1 := Lib.hid ho
        clear ho
        go_wp2_with fail
        go_ret
        exact HNO.out _ _ HO1.out
      · have hb2 : (65536 : Int) < m2 := by omega
        have hbi : ¬ (65536 : Int) < m := by omega
        clear hb hb1
        go_enter Try.func31, Try.ntmps31
        go_wp2_with fail
        refine HLK.out.mono ?_
        rintro _ w1 ⟨aa, an, ac, rfl, -, -, -, ho⟩
        have HO1 := Lib.hid ho
        clear ho
        go_wp2_with fail
        go_ret
        exact HNO.out _ _ HO1.out
    · rw [if_neg hb] at hEE
      subst hEE
      rw [if_pos rfl] at hKR
      have hm1 : m ≤ 65536 := by omega
      have hm2 : m2 ≤ 65536 := by omega
      have hbi : ¬ (65536 : Int) < m := by omega
      have hbi2 : ¬ (65536 : Int) < m2 := by omega
      have HNR := Lib.hid (HNR0.out rfl)
      have hKM : ∀ d : Kd, d.kp = ⟨n, q, r⟩ → KR = if most < (L.length : Int) + 1 then ((L ++ [d]).drop 1).map Kd.kp else (L ++ [d]).map Kd.kp := fun d hd => by
        rw [hKR]
        unfold keepK
        rw [← hd]
        have e : L.map Kd.kp ++ [d.kp] = (L ++ [d]).map Kd.kp := by simp
        rw [e, List.length_map, List.length_append, List.length_singleton, List.map_drop]
        by_cases hh : most < (L.length : Int) + 1
        · rw [if_pos hh, if_pos (by omega)]
        · rw [if_neg hh, if_neg (by omega)]
      have HKM := Lib.hid hKM
      clear hKR hKM hb HNO
      obtain ⟨ao, cap, hv, hcc, hrd, hab⟩ := HWN0.out.own.reads
      subst hv
      have HWN := HWN0
      have HNP : Hid ((.slice ao L.length cap : Value).ownBlock ≠ some p) := Lib.hid HWN.out.np
      have HOW := Lib.hid HWN.out.own
      clear HWN0 hrd hab
      have hmo1 := HWN.out.mo.1
      have hmo2 := HWN.out.mo.2
      have hln := HWN.out.len
      by_cases hdel : most < (L.length : Int) + 1
      · have HKP0 : Hid (∀ d : Kd, d.kp = ⟨n, q, r⟩ → ((L ++ [d]).drop 1).map Kd.kp = KR) := Lib.hid (fun d hd => by rw [HKM.out d hd, if_pos hdel])
        go_enter Try.func31, Try.ntmps31
        go_wp2_with fail
        refine HLK.out.mono ?_
        rintro _ w1 ⟨aa, an, ac, rfl, -, -, -, ho⟩
        have HO1 := Lib.hid ho
        have HSL : Hid (∀ w', Only (fun _ => False) w1 w' → w'.cell? ⟨p, 2, none⟩ = some (.slice ao L.length cap)) := Lib.hid (fun w' ho2 => (HWN.out.quiet (HO1.out.trans ho2)).c2)
        have HCQ : Hid (∀ w', Only (fun _ => False) w1 w' → _) := Lib.hid (fun w' (ho2 : Only (fun _ => False) w1 w') => clone_any a m c q w' (HR1.out.only (HO1.out.trans ho2) (fun _ _ f => f)) hm1)
        have HCA : Hid (∀ w', Only (fun _ => False) w1 w' → _) := Lib.hid (fun w' (ho2 : Only (fun _ => False) w1 w') => clone_any a2 m2 c2 r w' (HR2.out.only (HO1.out.trans ho2) (fun _ _ f => f)) hm2)
        clear ho HLK
        go_upto_region 9 with fail
        refine wp_region_noPanic ?_
        refine late.region (fun w' => w'.cell? ⟨p, 2, none⟩ = some (.slice ao L.length cap)) (fun j => [15].contains j) (by kernel_rfl) (HSL.out _ (Only.refl _ _).drew) (fun hHeld => ?_)
        obtain ⟨y0, hy0⟩ : ∃ x, x = w1.drew := ⟨_, rfl⟩
        rw [← hy0] at hHeld ⊢
        have hot : Hid (Only (fun _ => False) w1 y0) := Lib.hid (by rw [hy0]; exact (Only.refl _ _).drew)
        clear hy0
        refine late.take (i := 0) [13, 14, 15] (v := ?_) rfl (by kernel_rfl) (by kernel_rfl) (by kernel_rfl) (by kernel_rfl) (fun _ _ _ h => h) (Or.inl ⟨by rfl, ?_⟩) (by assumption) ?_
        rotate_left 1
        · intro w' hSw
          try dsimp only at hSw
          go_simp
          try with_reducible rfl
        try simp only [List.getElem_toArray, List.getElem_cons_zero, Act.put, List.setIfInBounds_toArray, List.set_cons_zero, List.set_cons_succ]
        refine late.take (i := 1) [2, 3, 4, 12, 13, 14, 15] (v := ?_) rfl (by kernel_rfl) (by kernel_rfl) (by kernel_rfl) (by kernel_rfl) (fun _ _ _ h => h) (Or.inl ⟨by rfl, ?_⟩) (by assumption) ?_
        rotate_left 1
        · intro w' hSw
          try dsimp only at hSw
          go_simp
          try with_reducible rfl
        try simp only [List.getElem_toArray, List.getElem_cons_zero, List.getElem_cons_succ, Act.put, List.setIfInBounds_toArray, List.set_cons_zero, List.set_cons_succ]
        refine late.take (i := 2) [3, 4, 12, 13, 14, 15] (v := ?_) rfl (by kernel_rfl) (by kernel_rfl) (by kernel_rfl) (by kernel_rfl) (fun _ _ _ h => h) (Or.inl ⟨by rfl, ?_⟩) (by assumption) ?_
        rotate_left 1
        · intro w' hSw
          try dsimp only at hSw
          go_simp
          try with_reducible rfl
        try simp only [List.getElem_toArray, List.getElem_cons_zero, List.getElem_cons_succ, Act.put, List.setIfInBounds_toArray, List.set_cons_zero, List.set_cons_succ]
        refine late.take (i := 3) [4, 12, 13, 14, 15] (v := ?_) rfl (by kernel_rfl) (by kernel_rfl) (by kernel_rfl) (by kernel_rfl) (fun _ _ _ h => h) (Or.inl ⟨by rfl, ?_⟩) (by assumption) ?_
        rotate_left 1
        · intro w' hSw
          try dsimp only at hSw
          go_simp
          try with_reducible rfl
        try simp only [List.getElem_toArray, List.getElem_cons_zero, List.getElem_cons_succ, Act.put, List.setIfInBounds_toArray, List.set_cons_zero, List.set_cons_succ]
        refine late.take (i := 4) [12, 13, 14, 15] (v := ?_) rfl (by kernel_rfl) (by kernel_rfl) (by kernel_rfl) (by kernel_rfl) (fun _ _ _ h => h) (Or.inl ⟨by rfl, ?_⟩) (by assumption) ?_
        rotate_left 1
        · intro w' hSw
          try dsimp only at hSw
          go_simp
          try with_reducible rfl
        try simp only [List.getElem_toArray, List.getElem_cons_zero, List.getElem_cons_succ, Act.put, List.setIfInBounds_toArray, List.set_cons_zero, List.set_cons_succ]
        refine late.take (i := 5) [10, 11, 12, 13, 14, 15] (v := ?_) rfl (by kernel_rfl) (by kernel_rfl) (by kernel_rfl) (by kernel_rfl) (fun _ _ _ h => h) (Or.inl ⟨by rfl, ?_⟩) (by assumption) ?_
        rotate_left 1
        · intro w' hSw
          try dsimp only at hSw
          go_simp
          try with_reducible rfl
        try simp only [List.getElem_toArray, List.getElem_cons_zero, List.getElem_cons_succ, Act.put, List.setIfInBounds_toArray, List.set_cons_zero, List.set_cons_succ]
        refine late.take (i := 6) [7, 9, 10, 11, 12, 13, 14, 15] (v := ?_) rfl (by kernel_rfl) (by kernel_rfl) (by kernel_rfl) (by kernel_rfl) (fun _ _ _ h => h) (Or.inl ⟨by rfl, ?_⟩) (by assumption) ?_
        rotate_left 1
        · intro w' hSw
          try dsimp only at hSw
          go_simp
          try with_reducible rfl
        try simp only [List.getElem_toArray, List.getElem_cons_zero, List.getElem_cons_succ, Act.put, List.setIfInBounds_toArray, List.set_cons_zero, List.set_cons_succ]
        refine late.take (i := 8) [9, 10, 11, 12, 13, 14, 15] (v := ?_) rfl (by kernel_rfl) (by kernel_rfl) (by kernel_rfl) (by kernel_rfl) (fun _ _ _ h => h) (Or.inl ⟨by rfl, ?_⟩) (by assumption) ?_
        rotate_left 1
        · intro w' hSw
          try dsimp only at hSw
          go_simp
          try with_reducible rfl
        try simp only [List.getElem_toArray, List.getElem_cons_zero, List.getElem_cons_succ, Act.put, List.setIfInBounds_toArray, List.set_cons_zero, List.set_cons_succ]
        refine late.ready (rs := [7]) (by kernel_rfl) (by simp) ?_
        refine late.Each.cons rfl (fun K hK => ?_) late.Each.nil
        try simp only [List.getElem_toArray, List.getElem_cons_zero, List.getElem_cons_succ]
        go_simp
        go_at_call 73
        with_reducible refine (HCQ.out _ hot.out).mono ?_
        rintro _ W1 ⟨xa, xc, rfl, xr, xk, xb, ho⟩
        have HxR := Lib.hid xr
        have HxB := Lib.hid xb
        have HxK := Lib.hid xk
        replace HxB : Hid (∀ y, xa = some y → w.heap.size ≤ y.block ∧ y.block < W1.heap.size) := Lib.hid (fun y e => ⟨Nat.le_trans (HO1.out.trans hot.out).size (HxB.out y e).1, (HxB.out y e).2.1⟩)
        replace hot := Lib.hid (hot.out.trans ho)
        clear ho xr xk xb
        try dsimp only
        refine hK.out _ _ (fun _ => HSL.out _ hot.out) (fun hHeld1 => ?_)
        replace hHeld1 := hHeld1 rfl
        clear hK K
        try simp only [List.getElem_toArray, List.getElem_cons_zero, List.getElem_cons_succ, Act.put, List.setIfInBounds_toArray, List.set_cons_zero, List.set_cons_succ]
        refine late.ready (rs := [9]) (by kernel_rfl) (by simp) ?_
        refine late.Each.cons rfl (fun K hK => ?_) late.Each.nil
        try simp only [List.getElem_toArray, List.getElem_cons_zero, List.getElem_cons_succ]
        go_simp
        go_at_call 73
        with_reducible refine (HCA.out _ hot.out).mono ?_
        rintro _ W2 ⟨ya, yc, rfl, yr, yk, yb, ho⟩
        have HyR := Lib.hid yr
        have HyB := Lib.hid yb
        have HyK := Lib.hid yk
        replace HxR := Lib.hid (HxR.out.only ho (fun _ _ f => f))
        replace HxB : Hid (∀ y, xa = some y → w.heap.size ≤ y.block ∧ y.block < W2.heap.size) := Lib.hid (fun y e => ⟨(HxB.out y e).1, Nat.lt_of_lt_of_le (HxB.out y e).2 ho.size⟩)
        replace HyB : Hid (∀ y, ya = some y → w.heap.size ≤ y.block ∧ y.block < W2.heap.size) := Lib.hid (fun y e => ⟨Nat.le_trans (HO1.out.trans hot.out).size (HyB.out y e).1, (HyB.out y e).2.1⟩)
        replace hot := Lib.hid (hot.out.trans ho)
        clear ho yr yk yb
        try dsimp only
        refine hK.out _ _ (fun _ => HSL.out _ hot.out) (fun hHeld2 => ?_)
        replace hHeld2 := hHeld2 rfl
        clear hK K
        try simp only [List.getElem_toArray, List.getElem_cons_zero, List.getElem_cons_succ, Act.put, List.setIfInBounds_toArray, List.set_cons_zero, List.set_cons_succ]
        refine late.take (i := 10) [11, 12, 13, 14, 15] (v := ?_) rfl (by kernel_rfl) (by kernel_rfl) (by kernel_rfl) (by kernel_rfl) (fun _ _ _ h => h) (Or.inl ⟨by rfl, ?_⟩) (by assumption) ?_
        rotate_left 1
        · intro w' hSw
          try dsimp only at hSw
          go_simp
          try with_reducible rfl
        try simp only [List.getElem_toArray, List.getElem_cons_zero, List.getElem_cons_succ, Act.put, List.setIfInBounds_toArray, List.set_cons_zero, List.set_cons_succ]
        refine late.ready (rs := [11]) (by kernel_rfl) (by simp) ?_
        refine late.Each.cons rfl (fun K hK => ?_) late.Each.nil
        try simp only [List.getElem_toArray, List.getElem_cons_zero, List.getElem_cons_succ]
        go_simp
        obtain ⟨w9, hw9⟩ : ∃ x, x = W2 := ⟨_, rfl⟩
        rw [← hw9] at hot HxR HxB HyR HyB ⊢
        clear hw9
        obtain ⟨W3, hW3⟩ : ∃ x, x = w9.alloc (.cells #[.int .i64 n, .slice xa m xc, .slice ya m2 yc] 123) := ⟨_, rfl⟩
        obtain ⟨g3, hg3⟩ : ∃ x, x = w9.heap.size := ⟨_, rfl⟩
        rw [← hW3, ← hg3]
        have hal : Only (fun _ => False) w9 W3 := by rw [hW3]; exact (Only.refl _ _).alloc _
        have HNW : Hid (∀ j u, (encK ⟨n, xa, m, xc, q, ya, m2, yc, r⟩)[j]? = some u → W3.cell? ⟨g3, j, none⟩ = some u) := Lib.hid (fun j u hu => by
          rw [hW3, hg3, Go.Joins.cell_of_block (cs := #[.int .i64 n, .slice xa m xc, .slice ya m2 yc]) (t := 123) (fr := (0, 0)) (by rw [heap_alloc, if_pos rfl])]
          rw [← hu]; simp [encK])
        have H9 := Lib.hid (HO1.out.trans hot.out)
        have HAL := Lib.hid hal
        have HSZ : Hid (w9.heap.size ≤ W3.heap.size) := Lib.hid hal.size
        replace hot := Lib.hid (hot.out.trans hal)
        clear hW3 hg3 hal
        refine hK.out _ _ (fun _ => HSL.out _ hot.out) (fun hHeld3 => ?_)
        replace hHeld3 := hHeld3 rfl
        clear hK K
        try simp only [List.getElem_toArray, List.getElem_cons_zero, List.getElem_cons_succ, Act.put, List.setIfInBounds_toArray, List.set_cons_zero, List.set_cons_succ]
        refine late.ready (rs := [12]) (by kernel_rfl) (by simp) ?_
        refine late.Each.cons rfl (fun K hK => ?_) late.Each.nil
        refine step_kept (a := { tmps := _, defers := _ }) rfl _ _ rfl _ L rfl (HOW.out.only (HO1.out.trans hot.out) (fun _ _ f => f)) g3 1 ⟨n, xa, m, xc, q, ya, m2, yc, r⟩ rfl HNW.out (by omega) ?_
        rintro v4 W4 hown hgrow hkk
        obtain ⟨gq, bc, hvf, -, -, hbc, -⟩ := owns_form hown (by simp)
        have hl1 : (L ++ [(⟨n, xa, m, xc, q, ya, m2, yc, r⟩ : Kd)]).length = L.length + 1 := by simp
        rw [hl1] at hvf hbc
        subst hvf
        have hgo := Only.of_grown hgrow
        have d2 := hgo.cell' (HSL.out _ hot.out) (fun e => HNP.out e)
        have f2 : W4.frozen? ⟨p, 2, none⟩ = false := (hgo.frozen (p := ⟨p, 2, none⟩) (by have := (HO1.out.trans hot.out).size; have := HPL.out; show p < _; omega) (fun e => HNP.out e)).trans ((((HO1.out.trans hot.out).frozen (p := ⟨p, 2, none⟩) HPL.out (fun f => f))).trans HWN.out.f2)
        have HOW12 := Lib.hid hown
        have HKK : Hid (∀ k, (.slice (some ⟨gq, 0, none⟩) (L.length + 1) bc : Value).ownBlock = some k → (.slice ao L.length cap : Value).ownBlock = some k ∨ w9.heap.size ≤ k) := Lib.hid (fun k e => (hkk k e).imp (fun x => x) (fun e2 => Nat.le_trans HSZ.out e2))
        have HC0 : Hid (W4.cell? ⟨p, 0, none⟩ = some (.int .i64 most) ∧ W4.cell? ⟨p, 1, none⟩ = some (.bool strict)) := Lib.hid ⟨hgo.cell' ((HWN.out.quiet (HO1.out.trans hot.out)).c0) (fun e => HNP.out e), hgo.cell' ((HWN.out.quiet (HO1.out.trans hot.out)).c1) (fun e => HNP.out e)⟩
        have HG9 : Hid (Only (fun x => x = p ∨ (.slice ao L.length cap : Value).ownBlock = some x) w9 W4) := Lib.hid ((HAL.out.mono (fun _ _ f => f.elim)).trans (hgo.mono (fun k _ e => .inr e)))
        clear hown hgrow hkk hgo HNW
        refine hK.out _ _ (fun _ => d2) (fun hHeld4 => ?_)
        replace hHeld4 := hHeld4 rfl
        clear hK K
        try simp only [List.getElem_toArray, List.getElem_cons_zero, List.getElem_cons_succ, Act.put, List.setIfInBounds_toArray, List.set_cons_zero, List.set_cons_succ]
        refine late.take (i := 13) [14, 15] (v := ?_) rfl (by kernel_rfl) (by kernel_rfl) (by kernel_rfl) (by kernel_rfl) (fun _ _ _ h => h) (Or.inl ⟨by rfl, ?_⟩) (by assumption) ?_
        rotate_left 1
        · intro w' hSw
          try dsimp only at hSw
          go_simp
          try with_reducible rfl
        try simp only [List.getElem_toArray, List.getElem_cons_zero, List.getElem_cons_succ, Act.put, List.setIfInBounds_toArray, List.set_cons_zero, List.set_cons_succ]
        refine late.take (i := 14) [15] (v := ?_) rfl (by kernel_rfl) (by kernel_rfl) (by kernel_rfl) (by kernel_rfl) (fun _ _ _ h => h) (Or.inl ⟨by rfl, ?_⟩) (by assumption) ?_
        rotate_left 1
        · intro w' hSw
          try dsimp only at hSw
          go_simp
          try with_reducible rfl
        try simp only [List.getElem_toArray, List.getElem_cons_zero, List.getElem_cons_succ, Act.put, List.setIfInBounds_toArray, List.set_cons_zero, List.set_cons_succ]
        refine late.ready (rs := [15]) (by kernel_rfl) (by simp) ?_
        refine late.Each.cons rfl (fun K hK => ?_) late.Each.nil
        try simp only [List.getElem_toArray, List.getElem_cons_zero, List.getElem_cons_succ]
        go_simp
        refine hK.out _ _ (fun h => by cases h) (fun _ => ?_)
        clear hK K
        try simp only [List.getElem_toArray, List.getElem_cons_zero, List.getElem_cons_succ, Act.put, List.setIfInBounds_toArray, List.set_cons_zero, List.set_cons_succ]
        refine late.done (by kernel_rfl) ?_ _
        refine NoPanic.normal ?_
        obtain ⟨w3, hw3⟩ : ∃ x, x = W4.setCell ⟨p, 2, none⟩ (.slice (some ⟨gq, 0, none⟩) (L.length + 1) bc : Value) := ⟨_, rfl⟩
        have e2 : w3.cell? ⟨p, 2, none⟩ = some (.slice (some ⟨gq, 0, none⟩) (L.length + 1) bc : Value) := by rw [hw3]; exact cell_same d2
        have ef : w3.frozen? ⟨p, 2, none⟩ = false := by rw [hw3]; exact frozen_set.trans f2
        have e0 : w3.cell? ⟨p, 0, none⟩ = some (.int .i64 most) := by rw [hw3, cell_other (fun e => by injection e with _ e _; omega)]; exact HC0.out.1
        have e1 : w3.cell? ⟨p, 1, none⟩ = some (.bool strict) := by rw [hw3, cell_other (fun e => by injection e with _ e _; omega)]; exact HC0.out.2
        have HNP9 : Hid ((.slice (some ⟨gq, 0, none⟩) (L.length + 1) bc : Value).ownBlock ≠ some p) := Lib.hid (fun e => (HKK.out p e).elim (fun e => HNP.out e) (fun e => by have := H9.out.size; have := HPL.out; omega))
        have HOW3 : Hid (OwnK w3 (.slice (some ⟨gq, 0, none⟩) (L.length + 1) bc : Value) (L ++ [⟨n, xa, m, xc, q, ya, m2, yc, r⟩])) := Lib.hid (by rw [hw3]; exact HOW12.out.only (Only.set (fun x => x = p) _ p 2 _ rfl) (fun k e e2 => HNP9.out (by rw [e, e2])))
        have HG3 : Hid (Only (fun x => x = p ∨ (.slice ao L.length cap : Value).ownBlock = some x) w9 w3) := Lib.hid (HG9.out.trans (by rw [hw3]; exact Only.set _ _ p 2 _ (.inl rfl)))
        have HALL : Hid (∀ w' v', Only (fun x => x = p ∨ (.slice ao L.length cap : Value).ownBlock = some x) w9 w' → (∀ k, v'.ownBlock = some k → (.slice (some ⟨gq, 0, none⟩) (L.length + 1) bc : Value).ownBlock = some k) → ∀ x ∈ L ++ [⟨n, xa, m, xc, q, ya, m2, yc, r⟩], KdIn (fun q => S q ∨ w.heap.size ≤ q) w' p v' x) := Lib.hid (fun w' v' ho hv => kept_more HWN.out H9.out ho (fun k e => HKK.out k (hv k e)) ⟨HxR.out, HxK.out, hm1⟩ ⟨HyR.out, HyK.out, hm2⟩ HxB.out HyB.out)
        have HSS : Hid (∀ w', Only (fun x => x = p ∨ (.slice ao L.length cap : Value).ownBlock = some x) w9 w' → Only S w w') := Lib.hid (fun w' ho => (H9.out.mono (fun _ _ f => f.elim)).trans (ho.mono (fun k hk e => e.elim (fun e => by rw [e]; exact HWN.out.sp) (fun e => HWN.out.sv k e))))
        rw [← hw3]
        clear hw3 hHeld d2 f2 HOW12 HC0 HG9 HxR HyR HxB HyB hot HSL HAL HSZ HCQ HCA
        go_upto_region 10 with fail
        have HKP := Lib.hid (HKP0.out ⟨n, xa, m, xc, q, ya, m2, yc, r⟩ rfl)
        have HSD : Hid (∀ w', Only (fun _ => False) w3 w' → w'.cell? ⟨p, 2, none⟩ = some (.slice (some ⟨gq, 0, none⟩) (L.length + 1) bc) ∧ w'.cell? ⟨p, 0, none⟩ = some (.int .i64 most)) := Lib.hid (fun w' ho => ⟨ho.cell' e2 (fun f => f), ho.cell' e0 (fun f => f)⟩)
        refine wp_region_noPanic ?_
        refine wp_region_held_drew (S := (fun w' => w'.cell? ⟨p, 2, none⟩ = some (.slice (some ⟨gq, 0, none⟩) (L.length + 1) bc) ∧ w'.cell? ⟨p, 0, none⟩ = some (.int .i64 most))) (by kernel_rfl) (HSD.out _ (Only.refl _ _).drew) (fun hHeld => ?_)
        obtain ⟨w4, hw4⟩ : ∃ x, x = w3.drew := ⟨_, rfl⟩
        rw [← hw4] at hHeld ⊢
        have h34 : Only (fun _ => False) w3 w4 := by rw [hw4]; exact (Only.refl _ _).drew
        clear hw4
        refine wpAnyH_take (i := 0) (v := ?_) rfl (by kernel_rfl) (by kernel_rfl) (by kernel_rfl) (fun _ _ _ h => h) (Or.inl ⟨by rfl, ?_⟩) (by assumption) ?_
        rotate_left 1
        · intro w' hSw
          try dsimp only at hSw
          go_simp
          try with_reducible rfl
        try simp only [List.getElem_toArray, List.getElem_cons_zero, Act.put, List.setIfInBounds_toArray, List.set_cons_zero, List.set_cons_succ]
        refine wpAnyH_take (i := 1) (v := ?_) rfl (by kernel_rfl) (by kernel_rfl) (by kernel_rfl) (fun _ _ _ h => h) (Or.inl ⟨by rfl, ?_⟩) (by assumption) ?_
        rotate_left 1
        · intro w' hSw
          try dsimp only at hSw
          go_simp
          try with_reducible rfl
        try simp only [List.getElem_toArray, List.getElem_cons_zero, List.getElem_cons_succ, Act.put, List.setIfInBounds_toArray, List.set_cons_zero, List.set_cons_succ]
        refine wpAnyH_take (i := 2) (v := ?_) rfl (by kernel_rfl) (by kernel_rfl) (by kernel_rfl) (fun _ _ _ h => h) (Or.inl ⟨by rfl, ?_⟩) (by assumption) ?_
        rotate_left 1
        · intro w' hSw
          try dsimp only at hSw
          go_simp
          try with_reducible rfl
        try simp only [List.getElem_toArray, List.getElem_cons_zero, List.getElem_cons_succ, Act.put, List.setIfInBounds_toArray, List.set_cons_zero, List.set_cons_succ]
        refine wpAnyH_take (i := 3) (v := ?_) rfl (by kernel_rfl) (by kernel_rfl) (by kernel_rfl) (fun _ _ _ h => h) (Or.inl ⟨by rfl, ?_⟩) (by assumption) ?_
        rotate_left 1
        · intro w' hSw
          try dsimp only at hSw
          go_simp
          try with_reducible rfl
        try simp only [List.getElem_toArray, List.getElem_cons_zero, List.getElem_cons_succ, Act.put, List.setIfInBounds_toArray, List.set_cons_zero, List.set_cons_succ]
        refine wpAnyH_take (i := 4) (v := ?_) rfl (by kernel_rfl) (by kernel_rfl) (by kernel_rfl) (fun _ _ _ h => h) (Or.inl ⟨by rfl, ?_⟩) (by assumption) ?_
        rotate_left 1
        · intro w' hSw
          try dsimp only at hSw
          go_simp
          try with_reducible rfl
        try simp only [List.getElem_toArray, List.getElem_cons_zero, List.getElem_cons_succ, Act.put, List.setIfInBounds_toArray, List.set_cons_zero, List.set_cons_succ]
        refine wpAnyH_take (i := 5) (v := ?_) rfl (by kernel_rfl) (by kernel_rfl) (by kernel_rfl) (fun _ _ _ h => h) (Or.inl ⟨by rfl, ?_⟩) (by assumption) ?_
        rotate_left 1
        · intro w' hSw
          try dsimp only at hSw
          go_simp
          try with_reducible rfl
        try simp only [List.getElem_toArray, List.getElem_cons_zero, List.getElem_cons_succ, Act.put, List.setIfInBounds_toArray, List.set_cons_zero, List.set_cons_succ]
        refine wpAnyH_take (i := 6) (v := ?_) rfl (by kernel_rfl) (by kernel_rfl) (by kernel_rfl) (fun _ _ _ h => h) (Or.inl ⟨by rfl, ?_⟩) (by assumption) ?_
        rotate_left 1
        · intro w' hSw
          try dsimp only at hSw
          go_simp
          try with_reducible rfl
        try simp only [List.getElem_toArray, List.getElem_cons_zero, List.getElem_cons_succ, Act.put, List.setIfInBounds_toArray, List.set_cons_zero, List.set_cons_succ]
        refine wpAnyH_take (i := 7) (v := ?_) rfl (by kernel_rfl) (by kernel_rfl) (by kernel_rfl) (fun _ _ _ h => h) (Or.inl ⟨by rfl, ?_⟩) (by assumption) ?_
        rotate_left 1
        · intro w' hSw
          try dsimp only at hSw
          go_simp
          try with_reducible rfl
        try simp only [List.getElem_toArray, List.getElem_cons_zero, List.getElem_cons_succ, Act.put, List.setIfInBounds_toArray, List.set_cons_zero, List.set_cons_succ]
        refine wpAnyH_take (i := 8) (v := ?_) rfl (by kernel_rfl) (by kernel_rfl) (by kernel_rfl) (fun _ _ _ h => h) (Or.inl ⟨by rfl, ?_⟩) (by assumption) ?_
        rotate_left 1
        · intro w' hSw
          try dsimp only at hSw
          go_simp
          try with_reducible rfl
        try simp only [List.getElem_toArray, List.getElem_cons_zero, List.getElem_cons_succ, Act.put, List.setIfInBounds_toArray, List.set_cons_zero, List.set_cons_succ]
        refine wpAnyH_take (i := 9) (v := ?_) rfl (by kernel_rfl) (by kernel_rfl) (by kernel_rfl) (fun _ _ _ h => h) (Or.inl ⟨by rfl, ?_⟩) (by assumption) ?_
        rotate_left 1
        · intro w' hSw
          try dsimp only at hSw
          go_simp
          try with_reducible rfl
        try simp only [List.getElem_toArray, List.getElem_cons_zero, List.getElem_cons_succ, Act.put, List.setIfInBounds_toArray, List.set_cons_zero, List.set_cons_succ]
        refine wpAnyH_done (by kernel_rfl) ?_ _
        refine NoPanic.normal ?_
        clear hHeld HSD
        have hgp : gq ≠ p := fun e => HNP9.out (by rw [e]; rfl)
        have HOW4 := Lib.hid (HOW3.out.only h34 (fun _ _ f => f))
        have HDL := Lib.hid (wdel_any gq (L.length + 1) bc (kv (L ++ [⟨n, xa, m, xc, q, ya, m2, yc, r⟩])) 0 1 (by omega) (by omega) (kv_one _) w4 (by have := HOW4.out; unfold OwnK at this; rw [hl1] at this; exact this))
        have c2' := h34.cell' e2 (fun f => f)
        have c0' := h34.cell' e0 (fun f => f)
        have c1' := h34.cell' e1 (fun f => f)
        have hf4 := (h34.frozen (p := ⟨p, 2, none⟩) (World.block_lt_of_cell? w3 _ e2) (fun f => f)).trans ef
        have HG4 : Hid (Only (fun x => x = p ∨ (.slice ao L.length cap : Value).ownBlock = some x) w9 w4) := Lib.hid (HG3.out.trans (h34.mono (fun _ _ f => f.elim)))
        have hz0 : 0 + (L.length + 1 - 1) = L.length := by omega
        rw [hz0] at HDL
        have hz1 : (kv (L ++ [(⟨n, xa, m, xc, q, ya, m2, yc, r⟩ : Kd)])).take (0 * 3) ++ (kv (L ++ [⟨n, xa, m, xc, q, ya, m2, yc, r⟩])).drop (1 * 3) = kv ((L ++ [(⟨n, xa, m, xc, q, ya, m2, yc, r⟩ : Kd)]).drop 1) := by rw [kv_drop]; simp
        rw [hz1] at HDL
        have hp4 : p < w4.heap.size := World.block_lt_of_cell? w4 _ c2'
        clear h34 e0 e1 e2 ef HG3 HOW3 HOW4 hz0 hz1
        go_wp2_with fail
        refine HDL.out.mono ?_
        rintro _ w5 ⟨rfl, hown, ho⟩
        have hnp : ¬ p = gq := fun e => hgp e.symm
        replace c2' := ho.cell' c2' hnp
        replace c0' := ho.cell' c0' hnp
        replace c1' := ho.cell' c1' hnp
        replace hf4 := (ho.frozen (p := ⟨p, 2, none⟩) hp4 hnp).trans hf4
        have HG5 : Hid (Only (fun x => x = p ∨ (.slice ao L.length cap : Value).ownBlock = some x) w9 w5) := Lib.hid (HG4.out.then ho (fun k hk e => by
          have e' : k = gq := e
          rcases HKK.out gq rfl with q | q
          · exact .inr (by rw [e']; exact q)
          · omega))
        obtain ⟨w6, hw6⟩ : ∃ x, x = w5.setCell ⟨p, 2, none⟩ (.slice (some ⟨gq, 0, none⟩) L.length bc) := ⟨_, rfl⟩
        have HL9 : Hid (((L ++ [(⟨n, xa, m, xc, q, ya, m2, yc, r⟩ : Kd)]).drop 1).length = L.length) := Lib.hid (by simp)
        have HG6 : Hid (Only (fun x => x = p ∨ (.slice ao L.length cap : Value).ownBlock = some x) w9 w6) := Lib.hid (HG5.out.trans (by rw [hw6]; exact Only.set _ _ p 2 _ (.inl rfl)))
        have HEND : Hid (WnAt (fun q => S q ∨ w.heap.size ≤ q) w6 p most strict (.slice (some ⟨gq, 0, none⟩) L.length bc) ((L ++ [(⟨n, xa, m, xc, q, ya, m2, yc, r⟩ : Kd)]).drop 1)) := Lib.hid ⟨(by rw [hw6, cell_other (fun e => by injection e with _ e _; omega)]; exact c0'), (by rw [hw6, cell_other (fun e => by injection e with _ e _; omega)]; exact c1'), (by rw [hw6]; exact cell_same c2'), (by rw [hw6]; exact frozen_set.trans hf4), (by
          unfold OwnK
          rw [HL9.out, hw6]
          exact owns_only (Only.set (fun x => x = p) w5 p 2 _ rfl) hown (fun k e e2 => by
            have e3 : gq = k := by simpa [Value.ownBlock] using e
            have e4 : k = p := e2
            omega)), (fun e => hgp (by simpa [Value.ownBlock] using e)), (by rw [HL9.out]; exact HWN.out.len), HWN.out.mo, (fun x hx => by
          rcases List.mem_append.1 (List.mem_of_mem_drop hx) with hx | hx
          · exact HWN.out.nb x hx
          · rw [List.mem_singleton] at hx; subst hx; exact ⟨HNR.out.1, HNR.out.2⟩), .inl HWN.out.sp, (fun k e => (HKK.out k (by simpa [Value.ownBlock] using e)).elim (fun e => .inl (HWN.out.sv k e)) (fun e => .inr (Nat.le_trans H9.out.size e))), fun x hx => HALL.out w6 _ HG6.out (fun k e => by simpa [Value.ownBlock] using e) x (List.mem_of_mem_drop hx)⟩
        have HOS := Lib.hid (HSS.out w6 HG6.out)
        clear HDL hown ho HG5 HG6 HALL HSS c0' c1' hp4 hnp
        go_wp2_with fail
        rw [← hw6]
        go_ret
        exact ⟨rfl, ⟨_, _, HKP.out, HEND.out⟩, HOS.out⟩
      · have HKP0 : Hid (∀ d : Kd, d.kp = ⟨n, q, r⟩ → (L ++ [d]).map Kd.kp = KR) := Lib.hid (fun d hd => by rw [HKM.out d hd, if_neg hdel])
        go_enter Try.func31, Try.ntmps31
        go_wp2_with fail
        refine HLK.out.mono ?_
        rintro _ w1 ⟨aa, an, ac, rfl, -, -, -, ho⟩
        have HO1 := Lib.hid ho
        have HSL : Hid (∀ w', Only (fun _ => False) w1 w' → w'.cell? ⟨p, 2, none⟩ = some (.slice ao L.length cap)) := Lib.hid (fun w' ho2 => (HWN.out.quiet (HO1.out.trans ho2)).c2)
        have HCQ : Hid (∀ w', Only (fun _ => False) w1 w' → _) := Lib.hid (fun w' (ho2 : Only (fun _ => False) w1 w') => clone_any a m c q w' (HR1.out.only (HO1.out.trans ho2) (fun _ _ f => f)) hm1)
        have HCA : Hid (∀ w', Only (fun _ => False) w1 w' → _) := Lib.hid (fun w' (ho2 : Only (fun _ => False) w1 w') => clone_any a2 m2 c2 r w' (HR2.out.only (HO1.out.trans ho2) (fun _ _ f => f)) hm2)
        clear ho HLK
        go_upto_region 9 with fail
        refine wp_region_noPanic ?_
        refine late.region (fun w' => w'.cell? ⟨p, 2, none⟩ = some (.slice ao L.length cap)) (fun j => [15].contains j) (by kernel_rfl) (HSL.out _ (Only.refl _ _).drew) (fun hHeld => ?_)
        obtain ⟨y0, hy0⟩ : ∃ x, x = w1.drew := ⟨_, rfl⟩
        rw [← hy0] at hHeld ⊢
        have hot : Hid (Only (fun _ => False) w1 y0) := Lib.hid (by rw [hy0]; exact (Only.refl _ _).drew)
        clear hy0
        refine late.take (i := 0) [13, 14, 15] (v := ?_) rfl (by kernel_rfl) (by kernel_rfl) (by kernel_rfl) (by kernel_rfl) (fun _ _ _ h => h) (Or.inl ⟨by rfl, ?_⟩) (by assumption) ?_
        rotate_left 1
        · intro w' hSw
          try dsimp only at hSw
          go_simp
          try with_reducible rfl
        try simp only [List.getElem_toArray, List.getElem_cons_zero, Act.put, List.setIfInBounds_toArray, List.set_cons_zero, List.set_cons_succ]
        refine late.take (i := 1) [2, 3, 4, 12, 13, 14, 15] (v := ?_) rfl (by kernel_rfl) (by kernel_rfl) (by kernel_rfl) (by kernel_rfl) (fun _ _ _ h => h) (Or.inl ⟨by rfl, ?_⟩) (by assumption) ?_
        rotate_left 1
        · intro w' hSw
          try dsimp only at hSw
          go_simp
          try with_reducible rfl
        try simp only [List.getElem_toArray, List.getElem_cons_zero, List.getElem_cons_succ, Act.put, List.setIfInBounds_toArray, List.set_cons_zero, List.set_cons_succ]
        refine late.take (i := 2) [3, 4, 12, 13, 14, 15] (v := ?_) rfl (by kernel_rfl) (by kernel_rfl) (by kernel_rfl) (by kernel_rfl) (fun _ _ _ h => h) (Or.inl ⟨by rfl, ?_⟩) (by assumption) ?_
        rotate_left 1
        · intro w' hSw
          try dsimp only at hSw
          go_simp
          try with_reducible rfl
        try simp only [List.getElem_toArray, List.getElem_cons_zero, List.getElem_cons_succ, Act.put, List.setIfInBounds_toArray, List.set_cons_zero, List.set_cons_succ]
        refine late.take (i := 3) [4, 12, 13, 14, 15] (v := ?_) rfl (by kernel_rfl) (by kernel_rfl) (by kernel_rfl) (by kernel_rfl) (fun _ _ _ h => h) (Or.inl ⟨by rfl, ?_⟩) (by assumption) ?_
        rotate_left 1
        · intro w' hSw
          try dsimp only at hSw
          go_simp
          try with_reducible rfl
        try simp only [List.getElem_toArray, List.getElem_cons_zero, List.getElem_cons_succ, Act.put, List.setIfInBounds_toArray, List.set_cons_zero, List.set_cons_succ]
        refine late.take (i := 4) [12, 13, 14, 15] (v := ?_) rfl (by kernel_rfl) (by kernel_rfl) (by kernel_rfl) (by kernel_rfl) (fun _ _ _ h => h) (Or.inl ⟨by rfl, ?_⟩) (by assumption) ?_
        rotate_left 1
        · intro w' hSw
          try dsimp only at hSw
          go_simp
          try with_reducible rfl
        try simp only [List.getElem_toArray, List.getElem_cons_zero, List.getElem_cons_succ, Act.put, List.setIfInBounds_toArray, List.set_cons_zero, List.set_cons_succ]
        refine late.take (i := 5) [10, 11, 12, 13, 14, 15] (v := ?_) rfl (by kernel_rfl) (by kernel_rfl) (by kernel_rfl) (by kernel_rfl) (fun _ _ _ h => h) (Or.inl ⟨by rfl, ?_⟩) (by assumption) ?_
        rotate_left 1
        · intro w' hSw
          try dsimp only at hSw
          go_simp
          try with_reducible rfl
        try simp only [List.getElem_toArray, List.getElem_cons_zero, List.getElem_cons_succ, Act.put, List.setIfInBounds_toArray, List.set_cons_zero, List.set_cons_succ]
        refine late.take (i := 6) [7, 9, 10, 11, 12, 13, 14, 15] (v := ?_) rfl (by kernel_rfl) (by kernel_rfl) (by kernel_rfl) (by kernel_rfl) (fun _ _ _ h => h) (Or.inl ⟨by rfl, ?_⟩) (by assumption) ?_
        rotate_left 1
        · intro w' hSw
          try dsimp only at hSw
          go_simp
          try with_reducible rfl
        try simp only [List.getElem_toArray, List.getElem_cons_zero, List.getElem_cons_succ, Act.put, List.setIfInBounds_toArray, List.set_cons_zero, List.set_cons_succ]
        refine late.take (i := 8) [9, 10, 11, 12, 13, 14, 15] (v := ?_) rfl (by kernel_rfl) (by kernel_rfl) (by kernel_rfl) (by kernel_rfl) (fun _ _ _ h => h) (Or.inl ⟨by rfl, ?_⟩) (by assumption) ?_
        rotate_left 1
        · intro w' hSw
          try dsimp only at hSw
          go_simp
          try with_reducible rfl
        try simp only [List.getElem_toArray, List.getElem_cons_zero, List.getElem_cons_succ, Act.put, List.setIfInBounds_toArray, List.set_cons_zero, List.set_cons_succ]
        refine late.ready (rs := [7]) (by kernel_rfl) (by simp) ?_
        refine late.Each.cons rfl (fun K hK => ?_) late.Each.nil
        try simp only [List.getElem_toArray, List.getElem_cons_zero, List.getElem_cons_succ]
        go_simp
        go_at_call 73
        with_reducible refine (HCQ.out _ hot.out).mono ?_
        rintro _ W1 ⟨xa, xc, rfl, xr, xk, xb, ho⟩
        have HxR := Lib.hid xr
        have HxB := Lib.hid xb
        have HxK := Lib.hid xk
        replace HxB : Hid (∀ y, xa = some y → w.heap.size ≤ y.block ∧ y.block < W1.heap.size) := Lib.hid (fun y e => ⟨Nat.le_trans (HO1.out.trans hot.out).size (HxB.out y e).1, (HxB.out y e).2.1⟩)
        replace hot := Lib.hid (hot.out.trans ho)
        clear ho xr xk xb
        try dsimp only
        refine hK.out _ _ (fun _ => HSL.out _ hot.out) (fun hHeld1 => ?_)
        replace hHeld1 := hHeld1 rfl
        clear hK K
        try simp only [List.getElem_toArray, List.getElem_cons_zero, List.getElem_cons_succ, Act.put, List.setIfInBounds_toArray, List.set_cons_zero, List.set_cons_succ]
        refine late.ready (rs := [9]) (by kernel_rfl) (by simp) ?_
        refine late.Each.cons rfl (fun K hK => ?_) late.Each.nil
        try simp only [List.getElem_toArray, List.getElem_cons_zero, List.getElem_cons_succ]
        go_simp
        go_at_call 73
        with_reducible refine (HCA.out _ hot.out).mono ?_
        rintro _ W2 ⟨ya, yc, rfl, yr, yk, yb, ho⟩
        have HyR := Lib.hid yr
        have HyB := Lib.hid yb
        have HyK := Lib.hid yk
        replace HxR := Lib.hid (HxR.out.only ho (fun _ _ f => f))
        replace HxB : Hid (∀ y, xa = some y → w.heap.size ≤ y.block ∧ y.block < W2.heap.size) := Lib.hid (fun y e => ⟨(HxB.out y e).1, Nat.lt_of_lt_of_le (HxB.out y e).2 ho.size⟩)
        replace HyB : Hid (∀ y, ya = some y → w.heap.size ≤ y.block ∧ y.block < W2.heap.size) := Lib.hid (fun y e => ⟨Nat.le_trans (HO1.out.trans hot.out).size (HyB.out y e).1, (HyB.out y e).2.1⟩)
        replace hot := Lib.hid (hot.out.trans ho)
        clear ho yr yk yb
        try dsimp only
        refine hK.out _ _ (fun _ => HSL.out _ hot.out) (fun hHeld2 => ?_)
        replace hHeld2 := hHeld2 rfl
        clear hK K
        try simp only [List.getElem_toArray, List.getElem_cons_zero, List.getElem_cons_succ, Act.put, List.setIfInBounds_toArray, List.set_cons_zero, List.set_cons_succ]
        refine late.take (i := 10) [11, 12, 13, 14, 15] (v := ?_) rfl (by kernel_rfl) (by kernel_rfl) (by kernel_rfl) (by kernel_rfl) (fun _ _ _ h => h) (Or.inl ⟨by rfl, ?_⟩) (by assumption) ?_
        rotate_left 1
        · intro w' hSw
          try dsimp only at hSw
          go_simp
          try with_reducible rfl
        try simp only [List.getElem_toArray, List.getElem_cons_zero, List.getElem_cons_succ, Act.put, List.setIfInBounds_toArray, List.set_cons_zero, List.set_cons_succ]
        refine late.ready (rs := [11]) (by kernel_rfl) (by simp) ?_
        refine late.Each.cons rfl (fun K hK => ?_) late.Each.nil
        try simp only [List.getElem_toArray, List.getElem_cons_zero, List.getElem_cons_succ]
        go_simp
        obtain ⟨w9, hw9⟩ : ∃ x, x = W2 := ⟨_, rfl⟩
        rw [← hw9] at hot HxR HxB HyR HyB ⊢
        clear hw9
        obtain ⟨W3, hW3⟩ : ∃ x, x = w9.alloc (.cells #[.int .i64 n, .slice xa m xc, .slice ya m2 yc] 123) := ⟨_, rfl⟩
        obtain ⟨g3, hg3⟩ : ∃ x, x = w9.heap.size := ⟨_, rfl⟩
        rw [← hW3, ← hg3]
        have hal : Only (fun _ => False) w9 W3 := by rw [hW3]; exact (Only.refl _ _).alloc _
        have HNW : Hid (∀ j u, (encK ⟨n, xa, m, xc, q, ya, m2, yc, r⟩)[j]? = some u → W3.cell? ⟨g3, j, none⟩ = some u) := Lib.hid (fun j u hu => by
          rw [hW3, hg3, Go.Joins.cell_of_block (cs := #[.int .i64 n, .slice xa m xc, .slice ya m2 yc]) (t := 123) (fr := (0, 0)) (by rw [heap_alloc, if_pos rfl])]
          rw [← hu]; simp [encK])
        have H9 := Lib.hid (HO1.out.trans hot.out)
        have HAL := Lib.hid hal
        have HSZ : Hid (w9.heap.size ≤ W3.heap.size) := Lib.hid hal.size
        replace hot := Lib.hid (hot.out.trans hal)
        clear hW3 hg3 hal
        refine hK.out _ _ (fun _ => HSL.out _ hot.out) (fun hHeld3 => ?_)
        replace hHeld3 := hHeld3 rfl
        clear hK K
        try simp only [List.getElem_toArray, List.getElem_cons_zero, List.getElem_cons_succ, Act.put, List.setIfInBounds_toArray, List.set_cons_zero, List.set_cons_succ]
        refine late.ready (rs := [12]) (by kernel_rfl) (by simp) ?_
        refine late.Each.cons rfl (fun K hK => ?_) late.Each.nil
        refine step_kept (a := { tmps := _, defers := _ }) rfl _ _ rfl _ L rfl (HOW.out.only (HO1.out.trans hot.out) (fun _ _ f => f)) g3 1 ⟨n, xa, m, xc, q, ya, m2, yc, r⟩ rfl HNW.out (by omega) ?_
        rintro v4 W4 hown hgrow hkk
        obtain ⟨gq, bc, hvf, -, -, hbc, -⟩ := owns_form hown (by simp)
        have hl1 : (L ++ [(⟨n, xa, m, xc, q, ya, m2, yc, r⟩ : Kd)]).length = L.length + 1 := by simp
        rw [hl1] at hvf hbc
        subst hvf
        have hgo := Only.of_grown hgrow
        have d2 := hgo.cell' (HSL.out _ hot.out) (fun e => HNP.out e)
        have f2 : W4.frozen? ⟨p, 2, none⟩ = false := (hgo.frozen (p := ⟨p, 2, none⟩) (by have := (HO1.out.trans hot.out).size; have := HPL.out; show p < _; omega) (fun e => HNP.out e)).trans ((((HO1.out.trans hot.out).frozen (p := ⟨p, 2, none⟩) HPL.out (fun f => f))).trans HWN.out.f2)
        have HOW12 := Lib.hid hown
        have HKK : Hid (∀ k, (.slice (some ⟨gq, 0, none⟩) (L.length + 1) bc : Value).ownBlock = some k → (.slice ao L.length cap : Value).ownBlock = some k ∨ w9.heap.size ≤ k) := Lib.hid (fun k e => (hkk k e).imp (fun x => x) (fun e2 => Nat.le_trans HSZ.out e2))
        have HC0 : Hid (W4.cell? ⟨p, 0, none⟩ = some (.int .i64 most) ∧ W4.cell? ⟨p, 1, none⟩ = some (.bool strict)) := Lib.hid ⟨hgo.cell' ((HWN.out.quiet (HO1.out.trans hot.out)).c0) (fun e => HNP.out e), hgo.cell' ((HWN.out.quiet (HO1.out.trans hot.out)).c1) (fun e => HNP.out e)⟩
        have HG9 : Hid (Only (fun x => x = p ∨ (.slice ao L.length cap : Value).ownBlock = some x) w9 W4) := Lib.hid ((HAL.out.mono (fun _ _ f => f.elim)).trans (hgo.mono (fun k _ e => .inr e)))
        clear hown hgrow hkk hgo HNW
        refine hK.out _ _ (fun _ => d2) (fun hHeld4 => ?_)
        replace hHeld4 := hHeld4 rfl
        clear hK K
        try simp only [List.getElem_toArray, List.getElem_cons_zero, List.getElem_cons_succ, Act.put, List.setIfInBounds_toArray, List.set_cons_zero, List.set_cons_succ]
        refine late.take (i := 13) [14, 15] (v := ?_) rfl (by kernel_rfl) (by kernel_rfl) (by kernel_rfl) (by kernel_rfl) (fun _ _ _ h => h) (Or.inl ⟨by rfl, ?_⟩) (by assumption) ?_
        rotate_left 1
        · intro w' hSw
          try dsimp only at hSw
          go_simp
          try with_reducible rfl
        try simp only [List.getElem_toArray, List.getElem_cons_zero, List.getElem_cons_succ, Act.put, List.setIfInBounds_toArray, List.set_cons_zero, List.set_cons_succ]
        refine late.take (i := 14) [15] (v := ?_) rfl (by kernel_rfl) (by kernel_rfl) (by kernel_rfl) (by kernel_rfl) (fun _ _ _ h => h) (Or.inl ⟨by rfl, ?_⟩) (by assumption) ?_
        rotate_left 1
        · intro w' hSw
          try dsimp only at hSw
          go_simp
          try with_reducible rfl
        try simp only [List.getElem_toArray, List.getElem_cons_zero, List.getElem_cons_succ, Act.put, List.setIfInBounds_toArray, List.set_cons_zero, List.set_cons_succ]
        refine late.ready (rs := [15]) (by kernel_rfl) (by simp) ?_
        refine late.Each.cons rfl (fun K hK => ?_) late.Each.nil
        try simp only [List.getElem_toArray, List.getElem_cons_zero, List.getElem_cons_succ]
        go_simp
        refine hK.out _ _ (fun h => by cases h) (fun _ => ?_)
        clear hK K
        try simp only [List.getElem_toArray, List.getElem_cons_zero, List.getElem_cons_succ, Act.put, List.setIfInBounds_toArray, List.set_cons_zero, List.set_cons_succ]
        refine late.done (by kernel_rfl) ?_ _
        refine NoPanic.normal ?_
        obtain ⟨w3, hw3⟩ : ∃ x, x = W4.setCell ⟨p, 2, none⟩ (.slice (some ⟨gq, 0, none⟩) (L.length + 1) bc : Value) := ⟨_, rfl⟩
        have e2 : w3.cell? ⟨p, 2, none⟩ = some (.slice (some ⟨gq, 0, none⟩) (L.length + 1) bc : Value) := by rw [hw3]; exact cell_same d2
        have ef : w3.frozen? ⟨p, 2, none⟩ = false := by rw [hw3]; exact frozen_set.trans f2
        have e0 : w3.cell? ⟨p, 0, none⟩ = some (.int .i64 most) := by rw [hw3, cell_other (fun e => by injection e with _ e _; omega)]; exact HC0.out.1
        have e1 : w3.cell? ⟨p, 1, none⟩ = some (.bool strict) := by rw [hw3, cell_other (fun e => by injection e with _ e _; omega)]; exact HC0.out.2
        have HNP9 : Hid ((.slice (some ⟨gq, 0, none⟩) (L.length + 1) bc : Value).ownBlock ≠ some p) := Lib.hid (fun e => (HKK.out p e).elim (fun e => HNP.out e) (fun e => by have := H9.out.size; have := HPL.out; omega))
        have HOW3 : Hid (OwnK w3 (.slice (some ⟨gq, 0, none⟩) (L.length + 1) bc : Value) (L ++ [⟨n, xa, m, xc, q, ya, m2, yc, r⟩])) := Lib.hid (by rw [hw3]; exact HOW12.out.only (Only.set (fun x => x = p) _ p 2 _ rfl) (fun k e e2 => HNP9.out (by rw [e, e2])))
        have HG3 : Hid (Only (fun x => x = p ∨ (.slice ao L.length cap : Value).ownBlock = some x) w9 w3) := Lib.hid (HG9.out.trans (by rw [hw3]; exact Only.set _ _ p 2 _ (.inl rfl)))
        have HALL : Hid (∀ w' v', Only (fun x => x = p ∨ (.slice ao L.length cap : Value).ownBlock = some x) w9 w' → (∀ k, v'.ownBlock = some k → (.slice (some ⟨gq, 0, none⟩) (L.length + 1) bc : Value).ownBlock = some k) → ∀ x ∈ L ++ [⟨n, xa, m, xc, q, ya, m2, yc, r⟩], KdIn (fun q => S q ∨ w.heap.size ≤ q) w' p v' x) := Lib.hid (fun w' v' ho hv => kept_more HWN.out H9.out ho (fun k e => HKK.out k (hv k e)) ⟨HxR.out, HxK.out, hm1⟩ ⟨HyR.out, HyK.out, hm2⟩ HxB.out HyB.out)
        have HSS : Hid (∀ w', Only (fun x => x = p ∨ (.slice ao L.length cap : Value).ownBlock = some x) w9 w' → Only S w w') := Lib.hid (fun w' ho => (H9.out.mono (fun _ _ f => f.elim)).trans (ho.mono (fun k hk e => e.elim (fun e => by rw [e]; exact HWN.out.sp) (fun e => HWN.out.sv k e))))
        rw [← hw3]
        clear hw3 hHeld d2 f2 HOW12 HC0 HG9 HxR HyR HxB HyB hot HSL HAL HSZ HCQ HCA
        go_upto_region 10 with fail
        have HKP := Lib.hid (HKP0.out ⟨n, xa, m, xc, q, ya, m2, yc, r⟩ rfl)
        have HSD : Hid (∀ w', Only (fun _ => False) w3 w' → w'.cell? ⟨p, 2, none⟩ = some (.slice (some ⟨gq, 0, none⟩) (L.length + 1) bc) ∧ w'.cell? ⟨p, 0, none⟩ = some (.int .i64 most)) := Lib.hid (fun w' ho => ⟨ho.cell' e2 (fun f => f), ho.cell' e0 (fun f => f)⟩)
        refine wp_region_noPanic ?_
        refine wp_region_held_drew (S := (fun w' => w'.cell? ⟨p, 2, none⟩ = some (.slice (some ⟨gq, 0, none⟩) (L.length + 1) bc) ∧ w'.cell? ⟨p, 0, none⟩ = some (.int .i64 most))) (by kernel_rfl) (HSD.out _ (Only.refl _ _).drew) (fun hHeld => ?_)
        obtain ⟨w4, hw4⟩ : ∃ x, x = w3.drew := ⟨_, rfl⟩
        rw [← hw4] at hHeld ⊢
        have h34 : Only (fun _ => False) w3 w4 := by rw [hw4]; exact (Only.refl _ _).drew
        clear hw4
        refine wpAnyH_take (i := 0) (v := ?_) rfl (by kernel_rfl) (by kernel_rfl) (by kernel_rfl) (fun _ _ _ h => h) (Or.inl ⟨by rfl, ?_⟩) (by assumption) ?_
        rotate_left 1
        · intro w' hSw
          try dsimp only at hSw
          go_simp
          try with_reducible rfl
        try simp only [List.getElem_toArray, List.getElem_cons_zero, Act.put, List.setIfInBounds_toArray, List.set_cons_zero, List.set_cons_succ]
        refine wpAnyH_take (i := 1) (v := ?_) rfl (by kernel_rfl) (by kernel_rfl) (by kernel_rfl) (fun _ _ _ h => h) (Or.inl ⟨by rfl, ?_⟩) (by assumption) ?_
        rotate_left 1
        · intro w' hSw
          try dsimp only at hSw
          go_simp
          try with_reducible rfl
        try simp only [List.getElem_toArray, List.getElem_cons_zero, List.getElem_cons_succ, Act.put, List.setIfInBounds_toArray, List.set_cons_zero, List.set_cons_succ]
        refine wpAnyH_take (i := 2) (v := ?_) rfl (by kernel_rfl) (by kernel_rfl) (by kernel_rfl) (fun _ _ _ h => h) (Or.inl ⟨by rfl, ?_⟩) (by assumption) ?_
        rotate_left 1
        · intro w' hSw
          try dsimp only at hSw
          go_simp
          try with_reducible rfl
        try simp only [List.getElem_toArray, List.getElem_cons_zero, List.getElem_cons_succ, Act.put, List.setIfInBounds_toArray, List.set_cons_zero, List.set_cons_succ]
        refine wpAnyH_take (i := 3) (v := ?_) rfl (by kernel_rfl) (by kernel_rfl) (by kernel_rfl) (fun _ _ _ h => h) (Or.inl ⟨by rfl, ?_⟩) (by assumption) ?_
        rotate_left 1
        · intro w' hSw
          try dsimp only at hSw
          go_simp
          try with_reducible rfl
        try simp only [List.getElem_toArray, List.getElem_cons_zero, List.getElem_cons_succ, Act.put, List.setIfInBounds_toArray, List.set_cons_zero, List.set_cons_succ]
        refine wpAnyH_take (i := 4) (v := ?_) rfl (by kernel_rfl) (by kernel_rfl) (by kernel_rfl) (fun _ _ _ h => h) (Or.inl ⟨by rfl, ?_⟩) (by assumption) ?_
        rotate_left 1
        · intro w' hSw
          try dsimp only at hSw
          go_simp
          try with_reducible rfl
        try simp only [List.getElem_toArray, List.getElem_cons_zero, List.getElem_cons_succ, Act.put, List.setIfInBounds_toArray, List.set_cons_zero, List.set_cons_succ]
        refine wpAnyH_take (i := 5) (v := ?_) rfl (by kernel_rfl) (by kernel_rfl) (by kernel_rfl) (fun _ _ _ h => h) (Or.inl ⟨by rfl, ?_⟩) (by assumption) ?_
        rotate_left 1
        · intro w' hSw
          try dsimp only at hSw
          go_simp
          try with_reducible rfl
        try simp only [List.getElem_toArray, List.getElem_cons_zero, List.getElem_cons_succ, Act.put, List.setIfInBounds_toArray, List.set_cons_zero, List.set_cons_succ]
        refine wpAnyH_take (i := 6) (v := ?_) rfl (by kernel_rfl) (by kernel_rfl) (by kernel_rfl) (fun _ _ _ h => h) (Or.inl ⟨by rfl, ?_⟩) (by assumption) ?_
        rotate_left 1
        · intro w' hSw
          try dsimp only at hSw
          go_simp
          try with_reducible rfl
        try simp only [List.getElem_toArray, List.getElem_cons_zero, List.getElem_cons_succ, Act.put, List.setIfInBounds_toArray, List.set_cons_zero, List.set_cons_succ]
        refine wpAnyH_take (i := 7) (v := ?_) rfl (by kernel_rfl) (by kernel_rfl) (by kernel_rfl) (fun _ _ _ h => h) (Or.inl ⟨by rfl, ?_⟩) (by assumption) ?_
        rotate_left 1
        · intro w' hSw
          try dsimp only at hSw
          go_simp
          try with_reducible rfl
        try simp only [List.getElem_toArray, List.getElem_cons_zero, List.getElem_cons_succ, Act.put, List.setIfInBounds_toArray, List.set_cons_zero, List.set_cons_succ]
        refine wpAnyH_take (i := 8) (v := ?_) rfl (by kernel_rfl) (by kernel_rfl) (by kernel_rfl) (fun _ _ _ h => h) (Or.inl ⟨by rfl, ?_⟩) (by assumption) ?_
        rotate_left 1
        · intro w' hSw
          try dsimp only at hSw
          go_simp
          try with_reducible rfl
        try simp only [List.getElem_toArray, List.getElem_cons_zero, List.getElem_cons_succ, Act.put, List.setIfInBounds_toArray, List.set_cons_zero, List.set_cons_succ]
        refine wpAnyH_take (i := 9) (v := ?_) rfl (by kernel_rfl) (by kernel_rfl) (by kernel_rfl) (fun _ _ _ h => h) (Or.inl ⟨by rfl, ?_⟩) (by assumption) ?_
        rotate_left 1
        · intro w' hSw
          try dsimp only at hSw
          go_simp
          try with_reducible rfl
        try simp only [List.getElem_toArray, List.getElem_cons_zero, List.getElem_cons_succ, Act.put, List.setIfInBounds_toArray, List.set_cons_zero, List.set_cons_succ]
        refine wpAnyH_done (by kernel_rfl) ?_ _
        refine NoPanic.normal ?_
        clear hHeld HSD
        have HO4 := Lib.hid h34
        have HEND : Hid (WnAt (fun q => S q ∨ w.heap.size ≤ q) w4 p most strict (.slice (some ⟨gq, 0, none⟩) (L.length + 1) bc) (L ++ [⟨n, xa, m, xc, q, ya, m2, yc, r⟩])) := Lib.hid ⟨h34.cell' e0 (fun f => f), h34.cell' e1 (fun f => f), h34.cell' e2 (fun f => f), (h34.frozen (p := ⟨p, 2, none⟩) (World.block_lt_of_cell? w3 _ e2) (fun f => f)).trans ef, HOW3.out.only h34 (fun _ _ f => f), HNP9.out, (by rw [hl1]; omega), HWN.out.mo, (fun x hx => by
          rcases List.mem_append.1 hx with hx | hx
          · exact HWN.out.nb x hx
          · rw [List.mem_singleton] at hx; subst hx; exact ⟨HNR.out.1, HNR.out.2⟩), .inl HWN.out.sp, (fun k e => (HKK.out k e).elim (fun e => .inl (HWN.out.sv k e)) (fun e => .inr (Nat.le_trans H9.out.size e))), HALL.out w4 _ (HG3.out.trans (h34.mono (fun _ _ f => f.elim))) (fun k e => e)⟩
        have HOS := Lib.hid (HSS.out w4 (HG3.out.trans (h34.mono (fun _ _ f => f.elim))))
        clear h34 e0 e1 e2 ef HALL HSS HG3 HOW3
        go_wp2_with fail
        go_ret
        exact ⟨rfl, ⟨_, _, HKP.out, HEND.out⟩, HOS.out⟩
  · rw [if_neg h7] at hEE
    have hb7 : (E == 7) = false := by simpa using h7
    by_cases h0 : E = 0
    · subst h0
      rw [if_pos rfl] at hEE
      subst hEE
      rw [if_neg (by decide)] at hKR
      subst hKR
      clear h7
      go_enter Try.func31, Try.ntmps31
      go_wp2_with fail
      refine HLK.out.mono ?_
      rintro _ w1 ⟨aa, an, ac, rfl, -, -, -, ho⟩
      have HO1 := Lib.hid ho
      clear ho
      go_wp2_with fail
      go_ret
      exact HNO.out _ _ HO1.out
    · rw [if_neg h0] at hEE
      subst hEE
      rw [if_neg h0] at hKR
      subst hKR
      have hb0 : (KE == 0) = false := by simpa using h0
      clear h7 h0
      go_enter Try.func31, Try.ntmps31
      go_wp2_with fail
      refine HLK.out.mono ?_
      rintro _ w1 ⟨aa, an, ac, rfl, -, -, -, ho⟩
      have HO1 := Lib.hid ho
      clear ho
      go_wp2_with fail
      go_ret
      exact HNO.out _ _ HO1.out
end Go.Proofs.Ytpjbgcbjelcnbaa.wnd
