/- Sessions with grants: like, of both tables. -/
import Derived.Test.YthflglejhhebeaaCsN
namespace Go.Proofs.Ythflglejhhebeaa.cs
open Go.RowKit mem rwg bigm bigw intm
set_option linter.unusedVariables false

theorem zc33 : (#[Value.slice none 0 0, Value.slice none 0 0, Value.slice none 0 0, Value.slice none 0 0, Value.slice none 0 0, Value.slice none 0 0, Value.slice none 0 0, Value.slice none 0 0, Value.slice none 0 0, Value.slice none 0 0, Value.slice none 0 0, Value.slice none 0 0, Value.slice none 0 0, Value.slice none 0 0, Value.slice none 0 0, Value.slice none 0 0, Value.slice none 0 0, Value.slice none 0 0, Value.slice none 0 0, Value.slice none 0 0, Value.slice none 0 0, Value.slice none 0 0, Value.slice none 0 0, Value.slice none 0 0, Value.slice none 0 0, Value.slice none 0 0, Value.slice none 0 0, Value.slice none 0 0, Value.slice none 0 0, Value.slice none 0 0, Value.slice none 0 0, Value.slice none 0 0, Value.slice none 0 0] : Array Value) = Array.replicate 33 (.slice none 0 0) := by rfl
theorem gOf_sum (L : List Sx) (n : Int) : ((gOf L n).map Gr.a).sum = heldOf L n := by
  induction L with
  | nil => rfl
  | cons x r ih =>
    have e : gOf (x :: r) n = (if x.nd = n then x.gs else []) ++ gOf r n := rfl
    have e2 : heldOf (x :: r) n = (if x.nd = n then (x.gs.map Gr.a).sum else 0) + heldOf r n := by unfold heldOf; rw [List.map_cons, List.sum_cons]
    rw [e, e2, List.map_append, List.sum_append, ih]
    split <;> simp
theorem step_rgr {ops : Array Oper} {o : Oper} {a : Act} {w : World} {K : Act → World → Prop} {Q : Exit → Act → World → Prop} {E : Prop}
    (hg : o.guard = none) (s x : Operand) (ho : o.op = Op.call { callee := Callee.builtin Builtin.append, args := #[s, x], argTypes := #[48, 48] })
    (v : Value) (xs : List Gr) (hs : a.eval s = v) (hown : OwnR (EG 92) w v xs) (ad : Option Addr) (m c : Nat) (ds : List Gr) (hx : a.eval x = .slice ad m c) (hr : ReadsG w ad m ds) (hb : xs.length ≤ 1000) (hb2 : m ≤ 1000)
    (hK : ∀ v' w', OwnR (EG 92) w' v' (xs ++ ds) → w.grownBy w' v.ownBlock → (∀ k, v'.ownBlock = some k → v.ownBlock = some k ∨ w.heap.size ≤ k) → K (a.put o.dst v') w') :
    if Region.wanted o (yielded ops a.tmps) = true then Oper.wp Try.prog o a w K Q else E := by
  obtain ⟨i0, hi, hz0, hz1, hz2⟩ := info_partsS info_rgr
  rcases ad with _ | ad
  · have hm : m = 0 := hr.2.elim (fun e => e) (fun ⟨b, off, e, _⟩ => by cases e)
    subst hm
    have hl : ds = [] := List.eq_nil_of_length_eq_zero hr.1
    subst hl
    refine owi.step_none_any hg s x 48 ho 0 92 i0 4 Try.underlying48 hi v xs.length _ c hs hown hx ?_
    exact hK v w (by rw [List.append_nil]; exact hown) ⟨rfl, rfl, rfl, Nat.le_refl _, fun _ _ _ => rfl⟩ (fun k hk => .inl hk)
  · refine step_mine hg s x 48 ho 92 i0 _ 4 32 Try.underlying48 hi hz0 hz1 hz2 rfl (by decide) v xs.length (gv (EG 92) xs) hs hown ad m c (gv (EG 0) ds) hx (by rw [gv_length, hr.1]; rfl) (ReadsR.news (E := EG 0) hr) (gv_one _ ds) (by unfold maxLen; omega) (by omega) ?_
    intro v' w' h1 h2 h3
    exact hK v' w' (OwnR.app_list (E := EG 92) h1 rfl hr.1) h2 h3
/-- the rows of grants, node by node -/
structure HAt (b0 : Nat) (w : World) (g : Nat) (Hf : Nat → Value) (T : List Sx) (dv : Value) : Prop where
  c : ∀ m, m < 33 → w.cell? ⟨g, m, none⟩ = some (Hf m)
  f : ∀ m, m < 33 → w.frozen? ⟨g, m, none⟩ = false
  o : ∀ m, m < 33 → OwnR (EG 92) w (Hf m) (gOf T (m : Int))
  b : ∀ m, m < 33 → ∀ q, (Hf m).ownBlock = some q → b0 ≤ q ∧ dv.ownBlock ≠ some q
  d : ∀ m, m < 33 → ∀ k, k < 33 → m ≠ k → ∀ q, (Hf m).ownBlock = some q → (Hf k).ownBlock ≠ some q
theorem HAt.lt {b0 : Nat} {w : World} {g : Nat} {Hf : Nat → Value} {T : List Sx} {dv : Value} (h : HAt b0 w g Hf T dv) : g < w.heap.size := World.block_lt_of_cell? w _ (h.c 0 (by omega))
theorem HAt.quiet {b0 : Nat} {w w' : World} {g : Nat} {Hf : Nat → Value} {T : List Sx} {dv : Value} (h : HAt b0 w g Hf T dv) (ho : Only (fun _ => False) w w') : HAt b0 w' g Hf T dv :=
  ⟨fun m hm => ho.cell' (h.c m hm) (fun f => f), fun m hm => (ho.frozen (p := ⟨g, m, none⟩) h.lt (fun f => f)).trans (h.f m hm), fun m hm => (h.o m hm).quiet ho, h.b, h.d⟩
/-- behind an append to the row of ids -/
theorem HAt.ids {b0 : Nat} {w w' : World} {g : Nat} {Hf : Nat → Value} {T : List Sx} {dv dv' : Value} (h : HAt b0 w g Hf T dv) (ho : Only (fun q => dv.ownBlock = some q) w w') (hg : dv.ownBlock ≠ some g) (hk : ∀ q, dv'.ownBlock = some q → dv.ownBlock = some q ∨ w.heap.size ≤ q) : HAt b0 w' g Hf T dv' :=
  ⟨fun m hm => ho.cell' (h.c m hm) hg, fun m hm => (ho.frozen (p := ⟨g, m, none⟩) h.lt hg).trans (h.f m hm), fun m hm => (h.o m hm).only ho (fun q e => (h.b m hm q e).2), fun m hm q e => ⟨(h.b m hm q e).1, fun e2 => (hk q e2).elim (fun e3 => (h.b m hm q e).2 e3) (fun e3 => by have := (h.o m hm).lt e; omega)⟩, h.d⟩
/-- behind an append to one of them, and its store -/
theorem HAt.put {b0 : Nat} {w w1 w' : World} {g : Nat} {Hf : Nat → Value} {T T' : List Sx} {dv v' : Value} {n : Nat} (h : HAt b0 w g Hf T dv) (hn : n < 33) (hb0 : b0 ≤ w.heap.size) (hgb : g < b0) (hdv : ∀ q, dv.ownBlock = some q → q < w.heap.size)
    (ho : Only (fun q => (Hf n).ownBlock = some q) w w1) (hk : ∀ q, v'.ownBlock = some q → (Hf n).ownBlock = some q ∨ w.heap.size ≤ q) (hw : w' = w1.setCell ⟨g, n, none⟩ v') (hown : OwnR (EG 92) w1 v' (gOf T' (n : Int))) (hT : ∀ m, m < 33 → m ≠ n → gOf T' (m : Int) = gOf T (m : Int)) :
    HAt b0 w' g (fun m => if m = n then v' else Hf m) T' dv := by
  have hset : Only (fun q => q = g) w1 w' := by rw [hw]; exact Only.set (fun q => q = g) _ g n _ rfl
  have hng : ∀ m, m < 33 → ¬ (Hf m).ownBlock = some g := fun m hm e => by have := (h.b m hm g e).1; omega
  have hvg : ∀ q, v'.ownBlock = some q → b0 ≤ q := fun q e => (hk q e).elim (fun e2 => (h.b n hn q e2).1) (fun e2 => by omega)
  refine ⟨fun m hm => ?_, fun m hm => ?_, fun m hm => ?_, fun m hm q e => ?_, fun m hm k hkk hmk q e e2 => ?_⟩
  · by_cases e : m = n
    · subst e
      rw [if_pos rfl, hw]
      exact cell_same (ho.cell' (h.c m hm) (hng m hm))
    · rw [if_neg e, hw, cell_other (addr_ne (fun x => e x.symm))]
      exact ho.cell' (h.c m hm) (hng n hn)
  · rw [hw]
    exact frozen_set.trans ((ho.frozen (p := ⟨g, m, none⟩) h.lt (hng n hn)).trans (h.f m hm))
  · by_cases e : m = n
    · subst e
      rw [if_pos rfl]
      exact hown.only hset (fun q e e2 => by have := hvg q e; have e2 : q = g := e2; omega)
    · rw [if_neg e, hT m hm e]
      exact ((h.o m hm).only ho (fun q e1 e2 => h.d m hm n hn e q e1 e2)).only hset (fun q e1 e2 => by have := (h.b m hm q e1).1; have e2 : q = g := e2; omega)
  · by_cases em : m = n
    · rw [if_pos em] at e
      exact ⟨hvg q e, fun e2 => (hk q e).elim (fun e3 => (h.b n hn q e3).2 e2) (fun e3 => by have := hdv q e2; omega)⟩
    · rw [if_neg em] at e
      exact h.b m hm q e
  · by_cases em : m = n
    · have ek : ¬ k = n := fun x => hmk (em.trans x.symm)
      rw [if_pos em] at e
      rw [if_neg ek] at e2
      rcases hk q e with e3 | e3
      · exact h.d n hn k hkk (fun x => ek x.symm) q e3 e2
      · have := (h.o k hkk).lt e2; omega
    · rw [if_neg em] at e
      by_cases ek : k = n
      · rw [if_pos ek] at e2
        rcases hk q e2 with e3 | e3
        · exact h.d m hm n hn em q e e3
        · have := (h.o m hm).lt e; omega
      · rw [if_neg ek] at e2
        exact h.d m hm k hkk hmk q e e2
theorem HAt.start (b0 : Nat) {w w1 : World} {g : Nat} (hw : w1 = w.alloc (.cells (#[Value.slice none 0 0, Value.slice none 0 0, Value.slice none 0 0, Value.slice none 0 0, Value.slice none 0 0, Value.slice none 0 0, Value.slice none 0 0, Value.slice none 0 0, Value.slice none 0 0, Value.slice none 0 0, Value.slice none 0 0, Value.slice none 0 0, Value.slice none 0 0, Value.slice none 0 0, Value.slice none 0 0, Value.slice none 0 0, Value.slice none 0 0, Value.slice none 0 0, Value.slice none 0 0, Value.slice none 0 0, Value.slice none 0 0, Value.slice none 0 0, Value.slice none 0 0, Value.slice none 0 0, Value.slice none 0 0, Value.slice none 0 0, Value.slice none 0 0, Value.slice none 0 0, Value.slice none 0 0, Value.slice none 0 0, Value.slice none 0 0, Value.slice none 0 0, Value.slice none 0 0] : Array Value) 82)) (hg : g = w.heap.size) : HAt b0 w1 g (fun _ => .slice none 0 0) [] (.slice none 0 0) :=
  ⟨fun m hm => by
    rw [hw, hg, Go.Joins.cell_of_block (cs := (#[Value.slice none 0 0, Value.slice none 0 0, Value.slice none 0 0, Value.slice none 0 0, Value.slice none 0 0, Value.slice none 0 0, Value.slice none 0 0, Value.slice none 0 0, Value.slice none 0 0, Value.slice none 0 0, Value.slice none 0 0, Value.slice none 0 0, Value.slice none 0 0, Value.slice none 0 0, Value.slice none 0 0, Value.slice none 0 0, Value.slice none 0 0, Value.slice none 0 0, Value.slice none 0 0, Value.slice none 0 0, Value.slice none 0 0, Value.slice none 0 0, Value.slice none 0 0, Value.slice none 0 0, Value.slice none 0 0, Value.slice none 0 0, Value.slice none 0 0, Value.slice none 0 0, Value.slice none 0 0, Value.slice none 0 0, Value.slice none 0 0, Value.slice none 0 0, Value.slice none 0 0] : Array Value)) (t := 82) (fr := (0, 0)) (by rw [heap_alloc, if_pos rfl]), zc33]
    simp [hm], fun m hm => by rw [hw]; exact sfrozen hg m, fun m hm => OwnR.nil _ _, fun m hm q e => (by cases e), fun m hm k hk hmk q e => (by cases e)⟩
set_option maxRecDepth 100000 in
set_option maxHeartbeats 16000000 in
theorem like_any {base : Nat} {pl last : Int} {p q : Nat} {KL : List Sx} (w : World) (h : TB base pl last p q KL w) : Calls Try.prog 19 #[.pointer (some ⟨p, 0, none⟩), .pointer (some ⟨q, 0, none⟩)] w fun e w' => e = .returned (.bool true) ∧ Only (fun _ => False) w w' := by
  obtain ⟨S1, S2, v, v2, L, L2, hT⟩ := h
  obtain ⟨i1, hj, hy0, hy1, hy2⟩ : ∃ i1, Try.prog.info? 3 = some i1 ∧ i1.zero = some (.int .i64 0) ∧ i1.size = 1 ∧ i1.bytes = 8 := by
    obtain ⟨i, h1, h2⟩ := Option.map_eq_some_iff.1 info_i64
    exact ⟨i, h1, by simpa using h2⟩
  have HT := Lib.hid hT
  have hl16 := hT.dt.len
  have HLK : Hid (L.length = KL.length ∧ L2.length = KL.length) := Lib.hid ⟨by rw [← hT.e1, List.length_map], by rw [← hT.e2, List.length_map]⟩
  obtain ⟨a2, cap2, hv2, hc2, hcm2, -, hr2, -⟩ := own_S hT.dt.own
  rw [HLK.out.2] at hv2 hc2 hr2
  subst hv2
  have hk16 : KL.length ≤ 16 := by have := HLK.out.2; omega
  unfold maxLen at hcm2
  have HR2 := Lib.hid hr2
  -- of session k both have the same
  have HKK : Hid (∀ k, k < KL.length → (L.getD k default).sx = KL.getD k default ∧ (L2.getD k default).sx = KL.getD k default ∧ GrIn S2 w q (.slice a2 KL.length cap2) (L2.getD k default) ∧ rightB (KL.getD k default) = true ∧ sIdx (KL.getD k default).i 0 (L.map Sd.sx) = (k : Int)) := Lib.hid (fun k hk => by
    have e1 : (L.getD k default).sx = KL.getD k default := by rw [← hT.e1, sx_get L (by rw [HLK.out.1]; exact hk)]
    have e2 : (L2.getD k default).sx = KL.getD k default := by rw [← hT.e2, sx_get L2 (by rw [HLK.out.2]; exact hk)]
    have hm2 : L2.getD k default ∈ L2 := by
      have : L2.getD k default = L2[k]'(by rw [HLK.out.2]; exact hk) := by simp [List.getD, HLK.out.2, hk]
      rw [this]; exact List.getElem_mem _
    exact ⟨e1, e2, hT.dt.kd _ hm2, (hT.ok.rt _ (getD_memS hk)).1, by rw [hT.e1]; exact hT.ok.idx hk⟩)
  have HL1K : Hid (∀ x ∈ L, x.gs.length ≤ 1000) := Lib.hid (fun x hx => by
    have h1 := (hT.ok.rt x.sx (by rw [← hT.e1]; exact List.mem_map.2 ⟨x, hx, rfl⟩)).1
    have h2 := grsB_len ((rightB_iff _).1 h1).2.2.2.2.2.2
    have h3 : x.gs.length ≤ 4 := h2
    omega)
  have HG4 : Hid (∀ k m, k ≤ KL.length → (gOf (KL.take k) m).length ≤ 64) := Lib.hid (fun k m hk => by
    have h1 := gOf_len (KL.take k) m (fun x hx => grsB_len ((rightB_iff _).1 (hT.ok.rt x (List.mem_of_mem_take hx)).1).2.2.2.2.2.2)
    rw [List.length_take] at h1
    omega)
  obtain ⟨w1, hw1⟩ : ∃ x, x = w.alloc (.cells (#[Value.slice none 0 0, Value.slice none 0 0, Value.slice none 0 0, Value.slice none 0 0, Value.slice none 0 0, Value.slice none 0 0, Value.slice none 0 0, Value.slice none 0 0, Value.slice none 0 0, Value.slice none 0 0, Value.slice none 0 0, Value.slice none 0 0, Value.slice none 0 0, Value.slice none 0 0, Value.slice none 0 0, Value.slice none 0 0, Value.slice none 0 0, Value.slice none 0 0, Value.slice none 0 0, Value.slice none 0 0, Value.slice none 0 0, Value.slice none 0 0, Value.slice none 0 0, Value.slice none 0 0, Value.slice none 0 0, Value.slice none 0 0, Value.slice none 0 0, Value.slice none 0 0, Value.slice none 0 0, Value.slice none 0 0, Value.slice none 0 0, Value.slice none 0 0, Value.slice none 0 0] : Array Value) 82) := ⟨_, rfl⟩
  obtain ⟨g6, hg6⟩ : ∃ x, x = w.heap.size := ⟨_, rfl⟩
  have ho1 : Only (fun _ => False) w w1 := by rw [hw1]; exact (Only.refl _ _).alloc _
  have HO1 := Lib.hid ho1
  have HH0 := Lib.hid (HAt.start w1.heap.size hw1 hg6)
  have HG6 : Hid (g6 = w.heap.size ∧ g6 < w1.heap.size) := Lib.hid ⟨hg6, by rw [hw1, hg6, size_alloc]; omega⟩
  have HTK : Hid (∀ w', Only (fun x => x = g6) w1 w' → TBs base S1 S2 pl last p q v (.slice a2 KL.length cap2) L L2 KL w') := Lib.hid (fun w' ho => by
    have h1 := HG6.out
    have hs1 := ho1.size
    have hs := ho.size
    have h2 := HT.out.quiet ho1
    exact ⟨h2.pt.only ho (fun x s e => by have e : x = g6 := e; have := (HT.out.d1 x s).2.1; omega), h2.dt.only ho (fun x s e => by have e : x = g6 := e; have := (HT.out.d2 x s).2; omega), h2.e1, h2.e2, h2.ok, fun x s => ⟨(h2.d1 x s).1, by have := (h2.d1 x s).2.1; omega, (h2.d1 x s).2.2⟩, fun x s => ⟨(h2.d2 x s).1, by have := (h2.d2 x s).2; omega⟩⟩)
  clear hT hr2 ho1
  go_enter Try.func19, Try.ntmps19
  go_upto_region 3 with fail
  simp only [← hw1, ← hg6]
  clear hw1 hg6
  go_wp2_with fail
  go_loopw [5, 7] (fun ov iv wr => ∃ (k : Nat) (dv : Value) (Hf : Nat → Value), k ≤ KL.length ∧ iv = .int .i64 (k : Int) ∧ dv = ov ∧ Hid (owi.OwnI wr dv ((KL.take k).map Sx.i)) ∧ Hid (∀ x, dv.ownBlock = some x → w1.heap.size ≤ x) ∧ Hid (HAt w1.heap.size wr g6 Hf (KL.take k) dv) ∧ Hid (Only (fun x => x = g6) w1 wr)) (fun _ iv _ => KL.length - (intOf iv).toNat)
  case atStart => exact ⟨0, _, _, by omega, rfl, rfl, Lib.hid (owi.OwnI.nil _), Lib.hid (fun x e => by cases e), HH0, Lib.hid (Only.refl _ _)⟩
  case round =>
    clear HH0
    obtain ⟨k, dv, Hf, hk, rfl, rfl, HID, HDB, HH, HO⟩ := hrel
    rename World => wr
    have hq2 := (HTK.out wr HO.out).dt.c2
    by_cases h8 : k < KL.length
    · as_aux_lemma =>
        have hki : (k : Int) < (KL.length : Int) := by omega
        have hk0 : (0 : Int) ≤ (k : Int) := by omega
        have hwk : wrap64 ((k : Int) + 1) = (k : Int) + 1 := by unfold wrap64; omega
        obtain ⟨b2, rfl, hcell⟩ := HR2.out.resolve_left (by omega)
        obtain ⟨e1, e2, hgr, hrt, hix⟩ := HKK.out k h8
        have HTS : Hid ((KL.take (k + 1)).map Sx.i = (KL.take k).map Sx.i ++ [(KL.getD k default).i]) := Lib.hid (by rw [take_getG KL k h8, List.map_append]; rfl)
        have HTL : Hid (((KL.take k).map Sx.i).length = k) := Lib.hid (by rw [List.length_map, List.length_take]; omega)
        have HGS : Hid (∀ m : Int, gOf (KL.take (k + 1)) m = gOf (KL.take k) m ++ (if (KL.getD k default).nd = m then (KL.getD k default).gs else [])) := Lib.hid (fun m => gOf_step m h8)
        have HGL : Hid (∀ m : Int, (gOf (KL.take k) m).length ≤ 64) := Lib.hid (fun m => HG4.out k m (by omega))
        have HGT := Lib.hid (cget_any p pl last v L (KL.getD k default).i wr (HTK.out wr HO.out).pt HL1K.out)
        have hlL := HLK.out.1
        have HCE : Hid (∀ w', Only (fun x => x = g6) w1 w' → w'.cell? ⟨q, 2, none⟩ = some (.slice (some ⟨b2, 0, none⟩) KL.length cap2) ∧ w'.cell? ⟨b2, k * 5, none⟩ = some (.int .i64 (L2.getD k default).i) ∧ w'.cell? ⟨b2, k * 5 + 1, none⟩ = some (.int .i64 (L2.getD k default).nd) ∧ w'.cell? ⟨b2, k * 5 + 2, none⟩ = some (.int .i64 (L2.getD k default).num) ∧ w'.cell? ⟨b2, k * 5 + 3, none⟩ = some (.int .i64 (L2.getD k default).dl) ∧ w'.cell? ⟨b2, k * 5 + 4, none⟩ = some (.slice (L2.getD k default).a (L2.getD k default).n (L2.getD k default).c)) := Lib.hid (fun w' ho => by
          obtain ⟨h0, h1, h2, h3, h4⟩ := hcell k h8
          have hb : ¬ b2 = g6 := by have := World.block_lt_of_cell? w _ h0; have h5 : b2 < w.heap.size := this; have := HG6.out.1; omega
          exact ⟨(HTK.out w' ho).dt.c2, ho.cell' (HO1.out.cell' h0 (fun f => f)) hb, ho.cell' (HO1.out.cell' h1 (fun f => f)) hb, ho.cell' (HO1.out.cell' h2 (fun f => f)) hb, ho.cell' (HO1.out.cell' h3 (fun f => f)) hb, ho.cell' (HO1.out.cell' h4 (fun f => f)) hb⟩)
        have HRG : Hid (∀ w', Only (fun x => x = g6) w1 w' → ReadsG w' (L2.getD k default).a (L2.getD k default).n (L2.getD k default).gs) := Lib.hid (fun w' ho => (hgr.1.quiet HO1.out).only' ho (fun y e hn e2 => by
          have h1 := (hgr.2.2 y e hn).1
          have e2 : y.block = g6 := e2
          have := HG6.out.1
          omega))
        have HCP2 : Hid (Cp (L2.getD k default).a (L2.getD k default).n (L2.getD k default).c) := Lib.hid hgr.2.1
        have hn2 := hgr.1.1
        clear hcell hgr
        obtain ⟨x1, hx1⟩ : ∃ x, x = L.getD k default := ⟨_, rfl⟩
        have HGO : Hid (∀ e w', GotS L (KL.getD k default).i wr e w' → ∃ xa xc, e = .returned (.tuple #[.agg #[.int .i64 x1.i, .int .i64 x1.nd, .int .i64 x1.num, .int .i64 x1.dl, .slice xa x1.n xc], .int .i64 0]) ∧ GC wr x1.n x1.gs xa xc w') := Lib.hid (fun e w' hg => by
          rcases hg with ⟨h1, -⟩ | ⟨k2, h1, h2, xa, xc, h3, h4⟩
          · rw [hix] at h1; omega
          · rw [hix] at h2
            obtain rfl : k = k2 := by omega
            rw [← hx1] at h3 h4
            exact ⟨xa, xc, h3, h4⟩)
        rw [← hx1] at e1
        have hn1 : x1.gs.length = x1.n := by
          have hm : x1 ∈ L := by
            rw [hx1]
            have : L.getD k default = L[k]'(by omega) := by simp [List.getD, show k < L.length by omega]
            rw [this]; exact List.getElem_mem _
          exact ((HTK.out wr HO.out).pt.kd x1 hm).1.1
        clear hx1 hix
        generalize L2.getD k default = x2 at *
        generalize KL.getD k default = kk at *
        obtain ⟨i1', n1', m1', l1', a1', q1', c1', s1'⟩ := x1
        obtain ⟨i2', n2', m2', l2', a2', q2', c2', s2'⟩ := x2
        obtain ⟨ki, kn, km, kd, kg⟩ := kk
        dsimp only [Sd.sx] at e1 e2 hn1 hn2 HCE HRG HCP2 HGO HGT HTS HGS
        injection e1 with f1 f2 f3 f4 f5
        injection e2 with f6 f7 f8 f9 f10
        subst f6 f7 f8 f9 f10
        subst f1 f2 f3 f4 f5
        subst hn1 hn2
        have hkg : 1 ≤ n1' ∧ n1' ≤ 32 := by have h := (rightB_iff _).1 hrt; exact ⟨h.2.2.1, h.2.2.2.1⟩
        obtain ⟨nn, rfl⟩ : ∃ nn : Nat, n1' = (nn : Int) := ⟨n1'.toNat, by omega⟩
        have hn33 : (nn : Int) < 33 := by omega
        have hnn0 : (0 : Int) ≤ (nn : Int) := by omega
        have hg4 : s1'.length ≤ 4 := grsB_len ((rightB_iff _).1 hrt).2.2.2.2.2.2
        have HIN : Hid (∀ y ∈ s1', In6 y.g ∧ In6 y.u ∧ In6 y.a) := Lib.hid (fun y hy => by
          have h := grsB_ok ((rightB_iff _).1 hrt).2.2.2.2.2.2 y hy
          unfold grOk at h
          unfold In6
          omega)
        obtain ⟨z0, z1, z2, z3, z4, z5⟩ := HCE.out wr HO.out
        go_wp2_with fail
        refine HGT.out.mono ?_
        rintro e9 w2 hgot
        obtain ⟨xa, xc, rfl, hgc⟩ := HGO.out e9 w2 hgot
        clear hgot
        dsimp only
        go_upto_region 7 with fail
        obtain ⟨w3, hw3⟩ : ∃ x, x = w2.alloc (.cells #[.int .i64 i1', .int .i64 (nn : Int), .int .i64 m1', .int .i64 l1', .slice xa s1'.length xc] 25) := ⟨_, rfl⟩
        obtain ⟨g8, hg8⟩ : ∃ x, x = w2.heap.size := ⟨_, rfl⟩
        obtain ⟨y0, y1, y2, y3, y4, oy⟩ := sbox hw3 hg8
        simp only [← hw3, ← hg8]
        have HO3 : Hid (Only (fun _ => False) wr w3) := Lib.hid (hgc.2.2.2.2.trans oy)
        have HW : Hid (∀ w', Only (fun _ => False) wr w' → Only (fun x => x = g6) w1 w') := Lib.hid (fun w' ho => HO.out.trans (ho.mono (fun _ _ f => f.elim)))
        have HS7 : Hid (∀ w', Only (fun _ => False) w3 w' → w'.cell? ⟨g8, 0, none⟩ = some (.int .i64 i1') ∧ w'.cell? ⟨g8, 1, none⟩ = some (.int .i64 (nn : Int)) ∧ w'.cell? ⟨g8, 2, none⟩ = some (.int .i64 m1') ∧ w'.cell? ⟨g8, 3, none⟩ = some (.int .i64 l1') ∧ w'.cell? ⟨g8, 4, none⟩ = some (.slice xa s1'.length xc) ∧ w'.cell? ⟨q, 2, none⟩ = some (.slice (some ⟨b2, 0, none⟩) KL.length cap2) ∧ w'.cell? ⟨b2, k * 5, none⟩ = some (.int .i64 i1') ∧ w'.cell? ⟨b2, k * 5 + 1, none⟩ = some (.int .i64 (nn : Int)) ∧ w'.cell? ⟨b2, k * 5 + 2, none⟩ = some (.int .i64 m1') ∧ w'.cell? ⟨b2, k * 5 + 3, none⟩ = some (.int .i64 l1') ∧ w'.cell? ⟨b2, k * 5 + 4, none⟩ = some (.slice a2' s1'.length c2')) := Lib.hid (fun w' ho => ⟨ho.cell' y0 (fun f => f), ho.cell' y1 (fun f => f), ho.cell' y2 (fun f => f), ho.cell' y3 (fun f => f), ho.cell' y4 (fun f => f), HCE.out w' (HW.out w' (HO3.out.trans ho))⟩)
        have hl1000 : s1'.length ≤ 1000 := by omega
        have HFM : Hid (∀ w', Only (fun _ => False) w3 w' → Calls _ _ _ w' _) := Lib.hid (fun w' (ho : Only (fun _ => False) w3 w') => from_any i1' (nn : Int) m1' l1' xa s1'.length xc s1' w' (hgc.1.quiet (oy.trans ho)) hgc.2.1 hl1000)
        have HSA : Hid (∀ w' ya yc, Only (fun _ => False) w3 w' → ReadsG w' ya s1'.length s1' → Cp ya s1'.length yc → Calls Try.prog 38 #[.agg #[.int .i64 i1', .int .i64 (nn : Int), .int .i64 m1', .int .i64 l1', .slice ya s1'.length yc], .agg #[.int .i64 i1', .int .i64 (nn : Int), .int .i64 m1', .int .i64 l1', .slice a2' s1'.length c2']] w' fun e w2 => e = .returned (.bool true) ∧ Only (fun _ => False) w' w2) := Lib.hid (fun w' ya yc ho h1 h2 => same_any i1' (nn : Int) m1' l1' ya a2' s1'.length yc c2' s1' w' h1 h2 (HRG.out w' (HW.out w' (HO3.out.trans ho))) HCP2.out HIN.out)
        clear hgc oy hw3 hg8 y0 y1 y2 y3 y4 z0 z1 z2 z3 z4 z5 HGT HGO
        refine wp_region_noPanic ?_
        refine wp_region_held_drew (S := (fun w' => w'.cell? ⟨g8, 0, none⟩ = some (.int .i64 i1') ∧ w'.cell? ⟨g8, 1, none⟩ = some (.int .i64 (nn : Int)) ∧ w'.cell? ⟨g8, 2, none⟩ = some (.int .i64 m1') ∧ w'.cell? ⟨g8, 3, none⟩ = some (.int .i64 l1') ∧ w'.cell? ⟨g8, 4, none⟩ = some (.slice xa s1'.length xc) ∧ w'.cell? ⟨q, 2, none⟩ = some (.slice (some ⟨b2, 0, none⟩) KL.length cap2) ∧ w'.cell? ⟨b2, k * 5, none⟩ = some (.int .i64 i1') ∧ w'.cell? ⟨b2, k * 5 + 1, none⟩ = some (.int .i64 (nn : Int)) ∧ w'.cell? ⟨b2, k * 5 + 2, none⟩ = some (.int .i64 m1') ∧ w'.cell? ⟨b2, k * 5 + 3, none⟩ = some (.int .i64 l1') ∧ w'.cell? ⟨b2, k * 5 + 4, none⟩ = some (.slice a2' s1'.length c2'))) (by kernel_rfl) (HS7.out _ (Only.refl _ _).drew) (fun hHeld => ?_)
        obtain ⟨y0, hy0⟩ : ∃ x, x = w3.drew := ⟨_, rfl⟩
        rw [← hy0] at hHeld ⊢
        have hot : Hid (Only (fun _ => False) w3 y0) := Lib.hid (by rw [hy0]; exact (Only.refl _ _).drew)
        clear hy0
        refine wpAnyH_take (i := 0) (v := ?_) rfl (by kernel_rfl) (by kernel_rfl) (by kernel_rfl) (fun _ _ _ h => h) (Or.inl ⟨by rfl, ?_⟩) (by assumption) ?_
        rotate_left 1
        · intro w' hSw
          try dsimp only at hSw
          go_simp
          try with_reducible rfl
        try simp only [List.getElem_toArray, List.getElem_cons_zero, Act.put, List.setIfInBounds_toArray, List.set_cons_zero, List.set_cons_succ]
        refine wpAnyH_take (i := 1) (v := ?_) rfl (by kernel_rfl) (by kernel_rfl) (by kernel_rfl) (fun _ _ _ h => h) (Or.inl ⟨by rfl, ?_⟩) (by assumption) ?_
        rotate_left 1
        · intro w' hSw
          try dsimp only at hSw
          go_simp
          try with_reducible rfl
        try simp only [List.getElem_toArray, List.getElem_cons_zero, List.getElem_cons_succ, Act.put, List.setIfInBounds_toArray, List.set_cons_zero, List.set_cons_succ]
        refine wpAnyH_take (i := 2) (v := ?_) rfl (by kernel_rfl) (by kernel_rfl) (by kernel_rfl) (fun _ _ _ h => h) (Or.inl ⟨by rfl, ?_⟩) (by assumption) ?_
        rotate_left 1
        · intro w' hSw
          try dsimp only at hSw
          go_simp
          try with_reducible rfl
        try simp only [List.getElem_toArray, List.getElem_cons_zero, List.getElem_cons_succ, Act.put, List.setIfInBounds_toArray, List.set_cons_zero, List.set_cons_succ]
        refine wpAnyH_take (i := 3) (v := ?_) rfl (by kernel_rfl) (by kernel_rfl) (by kernel_rfl) (fun _ _ _ h => h) (Or.inl ⟨by rfl, ?_⟩) (by assumption) ?_
        rotate_left 1
        · intro w' hSw
          try dsimp only at hSw
          go_simp
          try with_reducible rfl
        try simp only [List.getElem_toArray, List.getElem_cons_zero, List.getElem_cons_succ, Act.put, List.setIfInBounds_toArray, List.set_cons_zero, List.set_cons_succ]
        refine wpAnyH_take (i := 5) (v := ?_) rfl (by kernel_rfl) (by kernel_rfl) (by kernel_rfl) (fun _ _ _ h => h) (Or.inl ⟨by rfl, ?_⟩) (by assumption) ?_
        rotate_left 1
        · intro w' hSw
          try dsimp only at hSw
          go_simp
          try with_reducible rfl
        try simp only [List.getElem_toArray, List.getElem_cons_zero, List.getElem_cons_succ, Act.put, List.setIfInBounds_toArray, List.set_cons_zero, List.set_cons_succ]
        refine wpAnyH_take (i := 6) (v := ?_) rfl (by kernel_rfl) (by kernel_rfl) (by kernel_rfl) (fun _ _ _ h => h) (Or.inl ⟨by rfl, ?_⟩) (by assumption) ?_
        rotate_left 1
        · intro w' hSw
          try dsimp only at hSw
          go_simp
          try with_reducible rfl
        try simp only [List.getElem_toArray, List.getElem_cons_zero, List.getElem_cons_succ, Act.put, List.setIfInBounds_toArray, List.set_cons_zero, List.set_cons_succ]
        refine wpAnyH_take (i := 7) (v := ?_) rfl (by kernel_rfl) (by kernel_rfl) (by kernel_rfl) (fun _ _ _ h => h) (Or.inl ⟨by rfl, ?_⟩) (by assumption) ?_
        rotate_left 1
        · intro w' hSw
          try dsimp only at hSw
          go_simp
          try with_reducible rfl
        try simp only [List.getElem_toArray, List.getElem_cons_zero, List.getElem_cons_succ, Act.put, List.setIfInBounds_toArray, List.set_cons_zero, List.set_cons_succ]
        refine wpAnyH_take (i := 8) (v := ?_) rfl (by kernel_rfl) (by kernel_rfl) (by kernel_rfl) (fun _ _ _ h => h) (Or.inl ⟨by rfl, ?_⟩) (by assumption) ?_
        rotate_left 1
        · intro w' hSw
          try dsimp only at hSw
          go_simp
          try with_reducible rfl
        try simp only [List.getElem_toArray, List.getElem_cons_zero, List.getElem_cons_succ, Act.put, List.setIfInBounds_toArray, List.set_cons_zero, List.set_cons_succ]
        refine wpAnyH_take (i := 9) (v := ?_) rfl (by kernel_rfl) (by kernel_rfl) (by kernel_rfl) (fun _ _ _ h => h) (Or.inl ⟨by rfl, ?_⟩) (by assumption) ?_
        rotate_left 1
        · intro w' hSw
          try dsimp only at hSw
          go_simp
          try with_reducible rfl
        try simp only [List.getElem_toArray, List.getElem_cons_zero, List.getElem_cons_succ, Act.put, List.setIfInBounds_toArray, List.set_cons_zero, List.set_cons_succ]
        refine wpAnyH_take (i := 10) (v := ?_) rfl (by kernel_rfl) (by kernel_rfl) (by kernel_rfl) (fun _ _ _ h => h) (Or.inl ⟨by rfl, ?_⟩) (by assumption) ?_
        rotate_left 1
        · intro w' hSw
          try dsimp only at hSw
          go_simp
          try with_reducible rfl
        try simp only [List.getElem_toArray, List.getElem_cons_zero, List.getElem_cons_succ, Act.put, List.setIfInBounds_toArray, List.set_cons_zero, List.set_cons_succ]
        refine wpAnyH_take (i := 11) (v := ?_) rfl (by kernel_rfl) (by kernel_rfl) (by kernel_rfl) (fun _ _ _ h => h) (Or.inl ⟨by rfl, ?_⟩) (by assumption) ?_
        rotate_left 1
        · intro w' hSw
          try dsimp only at hSw
          go_simp
          try with_reducible rfl
        try simp only [List.getElem_toArray, List.getElem_cons_zero, List.getElem_cons_succ, Act.put, List.setIfInBounds_toArray, List.set_cons_zero, List.set_cons_succ]
        refine wpAnyH_ready (rs := [4]) (by kernel_rfl) (by simp) ?_
        refine AllReadyH.cons rfl (fun K hK => ?_) AllReadyH.nil
        try simp only [List.getElem_toArray, List.getElem_cons_zero, List.getElem_cons_succ]
        go_simp
        go_at_call 39
        with_reducible refine (HFM.out _ hot.out).mono ?_
        rintro _ W1 ⟨ya, yc, rfl, hown, hya, hyz, ho⟩
        have hgc0 := Own5.gc rfl hown hya hyz ho
        have HGY : Hid (ReadsG W1 ya s1'.length s1' ∧ Cp ya s1'.length yc) := Lib.hid ⟨hgc0.1, hgc0.2.1⟩
        clear hgc0
        replace hot := Lib.hid (hot.out.trans ho)
        clear hown hya hyz ho
        try dsimp only
        refine hK.out _ _ (HS7.out _ hot.out) (fun hHeld1 => ?_)
        clear hK K
        try simp only [List.getElem_toArray, List.getElem_cons_zero, List.getElem_cons_succ, Act.put, List.setIfInBounds_toArray, List.set_cons_zero, List.set_cons_succ]
        refine wpAnyH_ready (rs := [12]) (by kernel_rfl) (by simp) ?_
        refine AllReadyH.cons rfl (fun K hK => ?_) AllReadyH.nil
        try simp only [List.getElem_toArray, List.getElem_cons_zero, List.getElem_cons_succ]
        go_simp
        go_at_call 38
        with_reducible refine (HSA.out _ ya yc hot.out HGY.out.1 HGY.out.2).mono ?_
        rintro _ W2 ⟨rfl, ho⟩
        replace hot := Lib.hid (hot.out.trans ho)
        clear ho
        try dsimp only
        refine hK.out _ _ (HS7.out _ hot.out) (fun hHeld2 => ?_)
        clear hK K
        try simp only [List.getElem_toArray, List.getElem_cons_zero, List.getElem_cons_succ, Act.put, List.setIfInBounds_toArray, List.set_cons_zero, List.set_cons_succ]
        refine wpAnyH_take (i := 13) (v := ?_) rfl (by kernel_rfl) (by kernel_rfl) (by kernel_rfl) (fun _ _ _ h => h) (Or.inl ⟨by rfl, ?_⟩) (by assumption) ?_
        rotate_left 1
        · intro w' hSw
          try dsimp only at hSw
          go_simp
          try with_reducible rfl
        try simp only [List.getElem_toArray, List.getElem_cons_zero, List.getElem_cons_succ, Act.put, List.setIfInBounds_toArray, List.set_cons_zero, List.set_cons_succ]
        refine wpAnyH_take (i := 14) (v := ?_) rfl (by kernel_rfl) (by kernel_rfl) (by kernel_rfl) (fun _ _ _ h => h) (Or.inl ⟨by rfl, ?_⟩) (by assumption) ?_
        rotate_left 1
        · intro w' hSw
          try dsimp only at hSw
          go_simp
          try with_reducible rfl
        try simp only [List.getElem_toArray, List.getElem_cons_zero, List.getElem_cons_succ, Act.put, List.setIfInBounds_toArray, List.set_cons_zero, List.set_cons_succ]
        refine wpAnyH_done (by kernel_rfl) ?_ _
        refine NoPanic.normal ?_
        have HO4 := Lib.hid (HO3.out.trans hot.out)
        clear hHeld HS7 HFM HSA HGY
        have hW2 := HW.out W2 HO4.out
        obtain ⟨z0, z1, z2, z3, z4, z5⟩ := HCE.out W2 hW2
        have HOW : Hid ((W2.alloc (.cells #[.int .i64 i1'] 3)).ownsRow 0 3 1 dv ((KL.take k).map Sx.i).length (iv ((KL.take k).map Sx.i))) := Lib.hid (HID.out.only (HO4.out.alloc _) (fun _ _ f => f))
        rw [HTL.out] at HOW
        clear hW2
        go_wp2_with (at_builtin; refine append_mine rfl _ _ 38 rfl 3 i1 _ 1 8 Try.underlying38 hj hy0 hy1 hy2 rfl (by decide) _ k _ rfl HOW.out ⟨W2.heap.size, 0, none⟩ 1 1 (iv [i1']) rfl ?c1 ?c2 ?c3 ?c4 ?c5 ?_)
        case c1 => rfl
        case c2 => exact owi.news_int rfl _
        case c3 => exact iv_one _
        case c4 => unfold maxLen; omega
        case c5 => omega
        intro v5 w5 hown hgrow hkk
        have HID2 : Hid (owi.OwnI w5 v5 ((KL.take (k + 1)).map Sx.i)) := Lib.hid (by
          unfold owi.OwnI
          try rw [← List.map_take] at hown
          rw [HTS.out, owi.iv_append, List.length_append, HTL.out]
          exact hown)
        have HSZ : Hid (w1.heap.size ≤ w5.heap.size ∧ w1.heap.size ≤ W2.heap.size) := Lib.hid (by
          have h1 := HO.out.size
          have h2 := HO4.out.size
          have h3 := (Only.of_grown hgrow).size
          rw [size_alloc] at h3
          omega)
        have HDB2 : Hid (∀ x, v5.ownBlock = some x → w1.heap.size ≤ x) := Lib.hid (fun x hx => by
          have h4 := HSZ.out
          rcases hkk x hx with e | e
          · exact HDB.out x e
          · have h5 : W2.heap.size ≤ x := by first | omega | (simp only [size_alloc] at e; omega)
            omega)
        have HH2 : Hid (HAt w1.heap.size w5 g6 Hf (KL.take k) v5) := Lib.hid ((HH.out.quiet (HO4.out.alloc _)).ids (Only.of_grown hgrow) (fun e => by have := HDB.out _ e; have := HG6.out.2; omega) (fun x e => (hkk x e).imp (fun h => h) (fun h => by first | exact h | (simp only [size_alloc]; omega))))
        have HO5 : Hid (Only (fun x => x = g6) w1 w5) := Lib.hid (((HW.out W2 HO4.out).alloc _).then (Only.of_grown hgrow) (fun x hx e => by have := HDB.out x e; exact absurd hx (by omega)))
        clear hown hgrow hkk HOW z0 z1 z2 z3 z4 z5
        have HNB : Hid (¬ (Hf nn).ownBlock = some g6) := Lib.hid (fun e => by have := (HH2.out.b nn (by omega) _ e).1; have := HG6.out.2; omega)
        have HW5 : Hid (∀ w', Only (fun x => (Hf nn).ownBlock = some x) w5 w' → Only (fun x => x = g6) w1 w') := Lib.hid (fun w' ho => HO5.out.then ho (fun x hx e => by have := (HH2.out.b nn (by omega) x e).1; exact absurd hx (by omega)))
        have HS10 : Hid (∀ w', Only (fun x => (Hf nn).ownBlock = some x) w5 w' → w'.cell? ⟨q, 2, none⟩ = some (.slice (some ⟨b2, 0, none⟩) KL.length cap2) ∧ w'.cell? ⟨b2, k * 5 + 1, none⟩ = some (.int .i64 (nn : Int)) ∧ w'.cell? ⟨b2, k * 5 + 4, none⟩ = some (.slice a2' s1'.length c2') ∧ w'.cell? ⟨g6, nn, none⟩ = some (Hf nn)) := Lib.hid (fun w' ho => by
          obtain ⟨z0, z1, z2, z3, z4, z5⟩ := HCE.out w' (HW5.out w' ho)
          exact ⟨z0, z2, z5, ho.cell' (HH2.out.c nn (by omega)) HNB.out⟩)
        go_upto_region 10 with fail
        refine wp_region_noPanic ?_
        refine late.region (fun w' => w'.cell? ⟨q, 2, none⟩ = some (.slice (some ⟨b2, 0, none⟩) KL.length cap2) ∧ w'.cell? ⟨b2, k * 5 + 1, none⟩ = some (.int .i64 (nn : Int)) ∧ w'.cell? ⟨b2, k * 5 + 4, none⟩ = some (.slice a2' s1'.length c2') ∧ w'.cell? ⟨g6, nn, none⟩ = some (Hf nn)) (fun j => [28].contains j) (by kernel_rfl) (HS10.out _ (Only.refl _ _).drew) (fun hHeld => ?_)
        obtain ⟨y0, hy0⟩ : ∃ x, x = w5.drew := ⟨_, rfl⟩
        rw [← hy0] at hHeld ⊢
        have hot : Hid (Only (fun _ => False) w5 y0) := Lib.hid (by rw [hy0]; exact (Only.refl _ _).drew)
        clear hy0
        refine late.take (i := 0) [1, 2, 3, 5, 6, 7, 27, 28] (v := ?_) rfl (by kernel_rfl) (by kernel_rfl) (by kernel_rfl) (by kernel_rfl) (fun _ _ _ h => h) (Or.inl ⟨by rfl, ?_⟩) (by assumption) ?_
        rotate_left 1
        · intro w' hSw
          try dsimp only at hSw
          go_simp
          try with_reducible rfl
        try simp only [List.getElem_toArray, List.getElem_cons_zero, Act.put, List.setIfInBounds_toArray, List.set_cons_zero, List.set_cons_succ]
        refine late.take (i := 1) [2, 3, 5, 6, 7, 27, 28] (v := ?_) rfl (by kernel_rfl) (by kernel_rfl) (by kernel_rfl) (by kernel_rfl) (fun _ _ _ h => h) (Or.inl ⟨by rfl, ?_⟩) (by assumption) ?_
        rotate_left 1
        · intro w' hSw
          try dsimp only at hSw
          go_simp
          try with_reducible rfl
        try simp only [List.getElem_toArray, List.getElem_cons_zero, List.getElem_cons_succ, Act.put, List.setIfInBounds_toArray, List.set_cons_zero, List.set_cons_succ]
        refine late.take (i := 2) [3, 5, 6, 7, 27, 28] (v := ?_) rfl (by kernel_rfl) (by kernel_rfl) (by kernel_rfl) (by kernel_rfl) (fun _ _ _ h => h) (Or.inl ⟨by rfl, ?_⟩) (by assumption) ?_
        rotate_left 1
        · intro w' hSw
          try dsimp only at hSw
          go_simp
          try with_reducible rfl
        try simp only [List.getElem_toArray, List.getElem_cons_zero, List.getElem_cons_succ, Act.put, List.setIfInBounds_toArray, List.set_cons_zero, List.set_cons_succ]
        refine late.take (i := 3) [5, 6, 7, 27, 28] (v := ?_) rfl (by kernel_rfl) (by kernel_rfl) (by kernel_rfl) (by kernel_rfl) (fun _ _ _ h => h) (Or.inl ⟨by rfl, ?_⟩) (by assumption) ?_
        rotate_left 1
        · intro w' hSw
          try dsimp only at hSw
          go_simp
          try with_reducible rfl
        try simp only [List.getElem_toArray, List.getElem_cons_zero, List.getElem_cons_succ, Act.put, List.setIfInBounds_toArray, List.set_cons_zero, List.set_cons_succ]
        refine late.take (i := 4) [5, 6, 7, 27, 28] (v := ?_) rfl (by kernel_rfl) (by kernel_rfl) (by kernel_rfl) (by kernel_rfl) (fun _ _ _ h => h) (Or.inl ⟨by rfl, ?_⟩) (by assumption) ?_
        rotate_left 1
        · intro w' hSw
          try dsimp only at hSw
          go_simp
          try with_reducible rfl
        try simp only [List.getElem_toArray, List.getElem_cons_zero, List.getElem_cons_succ, Act.put, List.setIfInBounds_toArray, List.set_cons_zero, List.set_cons_succ]
        refine late.take (i := 5) [6, 7, 27, 28] (v := ?_) rfl (by kernel_rfl) (by kernel_rfl) (by kernel_rfl) (by kernel_rfl) (fun _ _ _ h => h) (Or.inl ⟨by rfl, ?_⟩) (by assumption) ?_
        rotate_left 1
        · intro w' hSw
          try dsimp only at hSw
          go_simp
          try with_reducible rfl
        try simp only [List.getElem_toArray, List.getElem_cons_zero, List.getElem_cons_succ, Act.put, List.setIfInBounds_toArray, List.set_cons_zero, List.set_cons_succ]
        refine late.take (i := 6) [7, 27, 28] (v := ?_) rfl (by kernel_rfl) (by kernel_rfl) (by kernel_rfl) (by kernel_rfl) (fun _ _ _ h => h) (Or.inl ⟨by rfl, ?_⟩) (by assumption) ?_
        rotate_left 1
        · intro w' hSw
          try dsimp only at hSw
          go_simp
          try with_reducible rfl
        try simp only [List.getElem_toArray, List.getElem_cons_zero, List.getElem_cons_succ, Act.put, List.setIfInBounds_toArray, List.set_cons_zero, List.set_cons_succ]
        refine late.take (i := 7) [27, 28] (v := ?_) rfl (by kernel_rfl) (by kernel_rfl) (by kernel_rfl) (by kernel_rfl) (fun _ _ _ h => h) (Or.inl ⟨by rfl, ?_⟩) (by assumption) ?_
        rotate_left 1
        · intro w' hSw
          try dsimp only at hSw
          go_simp
          try with_reducible rfl
        try simp only [List.getElem_toArray, List.getElem_cons_zero, List.getElem_cons_succ, Act.put, List.setIfInBounds_toArray, List.set_cons_zero, List.set_cons_succ]
        refine late.take (i := 8) [9, 10, 11, 13, 14, 15, 16, 17, 26, 27, 28] (v := ?_) rfl (by kernel_rfl) (by kernel_rfl) (by kernel_rfl) (by kernel_rfl) (fun _ _ _ h => h) (Or.inl ⟨by rfl, ?_⟩) (by assumption) ?_
        rotate_left 1
        · intro w' hSw
          try dsimp only at hSw
          go_simp
          try with_reducible rfl
        try simp only [List.getElem_toArray, List.getElem_cons_zero, List.getElem_cons_succ, Act.put, List.setIfInBounds_toArray, List.set_cons_zero, List.set_cons_succ]
        refine late.take (i := 9) [10, 11, 13, 14, 15, 16, 17, 26, 27, 28] (v := ?_) rfl (by kernel_rfl) (by kernel_rfl) (by kernel_rfl) (by kernel_rfl) (fun _ _ _ h => h) (Or.inl ⟨by rfl, ?_⟩) (by assumption) ?_
        rotate_left 1
        · intro w' hSw
          try dsimp only at hSw
          go_simp
          try with_reducible rfl
        try simp only [List.getElem_toArray, List.getElem_cons_zero, List.getElem_cons_succ, Act.put, List.setIfInBounds_toArray, List.set_cons_zero, List.set_cons_succ]
        refine late.take (i := 10) [11, 13, 14, 15, 16, 17, 26, 27, 28] (v := ?_) rfl (by kernel_rfl) (by kernel_rfl) (by kernel_rfl) (by kernel_rfl) (fun _ _ _ h => h) (Or.inl ⟨by rfl, ?_⟩) (by assumption) ?_
        rotate_left 1
        · intro w' hSw
          try dsimp only at hSw
          go_simp
          try with_reducible rfl
        try simp only [List.getElem_toArray, List.getElem_cons_zero, List.getElem_cons_succ, Act.put, List.setIfInBounds_toArray, List.set_cons_zero, List.set_cons_succ]
        refine late.take (i := 11) [13, 14, 15, 16, 17, 26, 27, 28] (v := ?_) rfl (by kernel_rfl) (by kernel_rfl) (by kernel_rfl) (by kernel_rfl) (fun _ _ _ h => h) (Or.inl ⟨by rfl, ?_⟩) (by assumption) ?_
        rotate_left 1
        · intro w' hSw
          try dsimp only at hSw
          go_simp
          try with_reducible rfl
        try simp only [List.getElem_toArray, List.getElem_cons_zero, List.getElem_cons_succ, Act.put, List.setIfInBounds_toArray, List.set_cons_zero, List.set_cons_succ]
        refine late.take (i := 12) [13, 14, 15, 16, 17, 26, 27, 28] (v := ?_) rfl (by kernel_rfl) (by kernel_rfl) (by kernel_rfl) (by kernel_rfl) (fun _ _ _ h => h) (Or.inl ⟨by rfl, ?_⟩) (by assumption) ?_
        rotate_left 1
        · intro w' hSw
          try dsimp only at hSw
          go_simp
          try with_reducible rfl
        try simp only [List.getElem_toArray, List.getElem_cons_zero, List.getElem_cons_succ, Act.put, List.setIfInBounds_toArray, List.set_cons_zero, List.set_cons_succ]
        refine late.take (i := 13) [14, 15, 16, 17, 26, 27, 28] (v := ?_) rfl (by kernel_rfl) (by kernel_rfl) (by kernel_rfl) (by kernel_rfl) (fun _ _ _ h => h) (Or.inl ⟨by rfl, ?_⟩) (by assumption) ?_
        rotate_left 1
        · intro w' hSw
          try dsimp only at hSw
          go_simp
          try with_reducible rfl
        try simp only [List.getElem_toArray, List.getElem_cons_zero, List.getElem_cons_succ, Act.put, List.setIfInBounds_toArray, List.set_cons_zero, List.set_cons_succ]
        refine late.take (i := 14) [15, 16, 17, 26, 27, 28] (v := ?_) rfl (by kernel_rfl) (by kernel_rfl) (by kernel_rfl) (by kernel_rfl) (fun _ _ _ h => h) (Or.inl ⟨by rfl, ?_⟩) (by assumption) ?_
        rotate_left 1
        · intro w' hSw
          try dsimp only at hSw
          go_simp
          try with_reducible rfl
        try simp only [List.getElem_toArray, List.getElem_cons_zero, List.getElem_cons_succ, Act.put, List.setIfInBounds_toArray, List.set_cons_zero, List.set_cons_succ]
        refine late.take (i := 15) [16, 17, 26, 27, 28] (v := ?_) rfl (by kernel_rfl) (by kernel_rfl) (by kernel_rfl) (by kernel_rfl) (fun _ _ _ h => h) (Or.inl ⟨by rfl, ?_⟩) (by assumption) ?_
        rotate_left 1
        · intro w' hSw
          try dsimp only at hSw
          go_simp
          try with_reducible rfl
        try simp only [List.getElem_toArray, List.getElem_cons_zero, List.getElem_cons_succ, Act.put, List.setIfInBounds_toArray, List.set_cons_zero, List.set_cons_succ]
        refine late.take (i := 16) [17, 26, 27, 28] (v := ?_) rfl (by kernel_rfl) (by kernel_rfl) (by kernel_rfl) (by kernel_rfl) (fun _ _ _ h => h) (Or.inl ⟨by rfl, ?_⟩) (by assumption) ?_
        rotate_left 1
        · intro w' hSw
          try dsimp only at hSw
          go_simp
          try with_reducible rfl
        try simp only [List.getElem_toArray, List.getElem_cons_zero, List.getElem_cons_succ, Act.put, List.setIfInBounds_toArray, List.set_cons_zero, List.set_cons_succ]
        refine late.take (i := 17) [26, 27, 28] (v := ?_) rfl (by kernel_rfl) (by kernel_rfl) (by kernel_rfl) (by kernel_rfl) (fun _ _ _ h => h) (Or.inl ⟨by rfl, ?_⟩) (by assumption) ?_
        rotate_left 1
        · intro w' hSw
          try dsimp only at hSw
          go_simp
          try with_reducible rfl
        try simp only [List.getElem_toArray, List.getElem_cons_zero, List.getElem_cons_succ, Act.put, List.setIfInBounds_toArray, List.set_cons_zero, List.set_cons_succ]
        refine late.take (i := 18) [19, 20, 21, 23, 24, 25, 26, 27, 28] (v := ?_) rfl (by kernel_rfl) (by kernel_rfl) (by kernel_rfl) (by kernel_rfl) (fun _ _ _ h => h) (Or.inl ⟨by rfl, ?_⟩) (by assumption) ?_
        rotate_left 1
        · intro w' hSw
          try dsimp only at hSw
          go_simp
          try with_reducible rfl
        try simp only [List.getElem_toArray, List.getElem_cons_zero, List.getElem_cons_succ, Act.put, List.setIfInBounds_toArray, List.set_cons_zero, List.set_cons_succ]
        refine late.take (i := 19) [20, 21, 23, 24, 25, 26, 27, 28] (v := ?_) rfl (by kernel_rfl) (by kernel_rfl) (by kernel_rfl) (by kernel_rfl) (fun _ _ _ h => h) (Or.inl ⟨by rfl, ?_⟩) (by assumption) ?_
        rotate_left 1
        · intro w' hSw
          try dsimp only at hSw
          go_simp
          try with_reducible rfl
        try simp only [List.getElem_toArray, List.getElem_cons_zero, List.getElem_cons_succ, Act.put, List.setIfInBounds_toArray, List.set_cons_zero, List.set_cons_succ]
        refine late.take (i := 20) [21, 23, 24, 25, 26, 27, 28] (v := ?_) rfl (by kernel_rfl) (by kernel_rfl) (by kernel_rfl) (by kernel_rfl) (fun _ _ _ h => h) (Or.inl ⟨by rfl, ?_⟩) (by assumption) ?_
        rotate_left 1
        · intro w' hSw
          try dsimp only at hSw
          go_simp
          try with_reducible rfl
        try simp only [List.getElem_toArray, List.getElem_cons_zero, List.getElem_cons_succ, Act.put, List.setIfInBounds_toArray, List.set_cons_zero, List.set_cons_succ]
        refine late.take (i := 21) [23, 24, 25, 26, 27, 28] (v := ?_) rfl (by kernel_rfl) (by kernel_rfl) (by kernel_rfl) (by kernel_rfl) (fun _ _ _ h => h) (Or.inl ⟨by rfl, ?_⟩) (by assumption) ?_
        rotate_left 1
        · intro w' hSw
          try dsimp only at hSw
          go_simp
          try with_reducible rfl
        try simp only [List.getElem_toArray, List.getElem_cons_zero, List.getElem_cons_succ, Act.put, List.setIfInBounds_toArray, List.set_cons_zero, List.set_cons_succ]
        refine late.take (i := 22) [23, 24, 25, 26, 27, 28] (v := ?_) rfl (by kernel_rfl) (by kernel_rfl) (by kernel_rfl) (by kernel_rfl) (fun _ _ _ h => h) (Or.inl ⟨by rfl, ?_⟩) (by assumption) ?_
        rotate_left 1
        · intro w' hSw
          try dsimp only at hSw
          go_simp
          try with_reducible rfl
        try simp only [List.getElem_toArray, List.getElem_cons_zero, List.getElem_cons_succ, Act.put, List.setIfInBounds_toArray, List.set_cons_zero, List.set_cons_succ]
        refine late.take (i := 23) [24, 25, 26, 27, 28] (v := ?_) rfl (by kernel_rfl) (by kernel_rfl) (by kernel_rfl) (by kernel_rfl) (fun _ _ _ h => h) (Or.inl ⟨by rfl, ?_⟩) (by assumption) ?_
        rotate_left 1
        · intro w' hSw
          try dsimp only at hSw
          go_simp
          try with_reducible rfl
        try simp only [List.getElem_toArray, List.getElem_cons_zero, List.getElem_cons_succ, Act.put, List.setIfInBounds_toArray, List.set_cons_zero, List.set_cons_succ]
        refine late.take (i := 24) [25, 26, 27, 28] (v := ?_) rfl (by kernel_rfl) (by kernel_rfl) (by kernel_rfl) (by kernel_rfl) (fun _ _ _ h => h) (Or.inl ⟨by rfl, ?_⟩) (by assumption) ?_
        rotate_left 1
        · intro w' hSw
          try dsimp only at hSw
          go_simp
          try with_reducible rfl
        try simp only [List.getElem_toArray, List.getElem_cons_zero, List.getElem_cons_succ, Act.put, List.setIfInBounds_toArray, List.set_cons_zero, List.set_cons_succ]
        refine late.take (i := 25) [26, 27, 28] (v := ?_) rfl (by kernel_rfl) (by kernel_rfl) (by kernel_rfl) (by kernel_rfl) (fun _ _ _ h => h) (Or.inl ⟨by rfl, ?_⟩) (by assumption) ?_
        rotate_left 1
        · intro w' hSw
          try dsimp only at hSw
          go_simp
          try with_reducible rfl
        try simp only [List.getElem_toArray, List.getElem_cons_zero, List.getElem_cons_succ, Act.put, List.setIfInBounds_toArray, List.set_cons_zero, List.set_cons_succ]
        refine late.ready (rs := [26]) (by kernel_rfl) (by simp) ?_
        refine late.Each.cons rfl (fun K hK => ?_) late.Each.nil
        refine step_rgr (a := { tmps := _, defers := _ }) rfl _ _ rfl (Hf nn) (gOf (KL.take k) (nn : Int)) rfl ((HH2.out.quiet hot.out).o nn (by omega)) _ _ _ s1' rfl (HRG.out _ (HW5.out _ (hot.out.mono (fun _ _ f => f.elim)))) (by have := HGL.out (nn : Int); omega) hl1000 ?_
        intro v1 W1 hown hgrow hkk
        obtain ⟨va, vc, hvf, -, -, -⟩ := own_G (t := 92) hown rfl
        generalize (gOf (KL.take k) (nn : Int) ++ s1').length = vn at hvf
        subst hvf
        have hgo := Only.of_grown hgrow
        have HGO2 := Lib.hid hgo
        have HPK := Lib.hid hkk
        have HPO : Hid (OwnR (EG 92) W1 (.slice va vn vc) (gOf (KL.take (k + 1)) (nn : Int))) := Lib.hid (by rw [HGS.out, if_pos rfl]; exact hown)
        have HOT := Lib.hid hot.out
        have cf := hgo.cell' ((HH2.out.quiet hot.out).c nn (by omega)) (HNB.out)
        have ff : W1.frozen? ⟨g6, nn, none⟩ = false := (hgo.frozen (p := ⟨g6, nn, none⟩) ((HH2.out.quiet hot.out).lt) (HNB.out)).trans ((HH2.out.quiet hot.out).f nn (by omega))
        have hS10 := HS10.out _ ((hot.out.mono (fun _ _ f => f.elim)).trans hgo)
        clear hown hgrow hkk hgo
        try dsimp only
        refine hK.out _ _ (fun _ => hS10) (fun hHeld1 => ?_)
        replace hHeld1 := hHeld1 rfl
        clear hK K
        try simp only [List.getElem_toArray, List.getElem_cons_zero, List.getElem_cons_succ, Act.put, List.setIfInBounds_toArray, List.set_cons_zero, List.set_cons_succ]
        refine late.take (i := 27) [28] (v := ?_) rfl (by kernel_rfl) (by kernel_rfl) (by kernel_rfl) (by kernel_rfl) (fun _ _ _ h => h) (Or.inl ⟨by rfl, ?_⟩) (by assumption) ?_
        rotate_left 1
        · intro w' hSw
          try dsimp only at hSw
          go_simp
          try with_reducible rfl
        try simp only [List.getElem_toArray, List.getElem_cons_zero, List.getElem_cons_succ, Act.put, List.setIfInBounds_toArray, List.set_cons_zero, List.set_cons_succ]
        refine late.ready (rs := [28]) (by kernel_rfl) (by simp) ?_
        refine late.Each.cons rfl (fun K hK => ?_) late.Each.nil
        try simp only [List.getElem_toArray, List.getElem_cons_zero, List.getElem_cons_succ]
        go_simp
        obtain ⟨w7, hw7⟩ : ∃ x, x = W1.setCell ⟨g6, nn, none⟩ (.slice va vn vc) := ⟨_, rfl⟩
        rw [← hw7]
        refine hK.out _ _ (fun h => by cases h) (fun _ => ?_)
        clear hK K
        try simp only [List.getElem_toArray, List.getElem_cons_zero, List.getElem_cons_succ, Act.put, List.setIfInBounds_toArray, List.set_cons_zero, List.set_cons_succ]
        refine late.done (by kernel_rfl) ?_ _
        refine NoPanic.normal ?_
        have HH3 := Lib.hid ((HH2.out.quiet HOT.out).put (n := nn) (T' := KL.take (k + 1)) (by omega) (Nat.le_trans HSZ.out.1 HOT.out.size) HG6.out.2 (fun x e => Nat.lt_of_lt_of_le (HID2.out.lt e) HOT.out.size) HGO2.out HPK.out hw7 HPO.out (fun m hm e => by rw [HGS.out, if_neg (fun e2 => e (by omega)), List.append_nil]))
        have HO7 : Hid (Only (fun x => x = g6) w1 w7) := Lib.hid ((HO5.out.trans (HOT.out.mono (fun _ _ f => f.elim))).then HGO2.out (fun x hx e => by have := (HH2.out.b nn (by omega) x e).1; exact absurd hx (by omega)) |>.trans (by rw [hw7]; exact Only.set (fun x => x = g6) _ g6 nn _ rfl))
        have HOS7 : Hid (Only (fun x => x = g6) W1 w7) := Lib.hid (by rw [hw7]; exact Only.set (fun x => x = g6) _ g6 nn _ rfl)
        clear hHeld hw7 cf ff hS10
        go_wp2_with fail
        go_roundw
        case rel => exact ⟨k + 1, _, _, by omega, by go_num, rfl, Lib.hid (HID2.out.only (S := fun x => x = g6 ∨ (Hf nn).ownBlock = some x) (((HOT.out.mono (fun _ _ f => f.elim)).trans (HGO2.out.mono (fun x _ e => .inr e))).trans (HOS7.out.mono (fun x _ e => .inl e))) (fun x e e2 => e2.elim (fun e2 => by have := HDB2.out x e; have := HG6.out.2; omega) (fun e2 => (HH2.out.b nn (by omega) x e2).2 e))), HDB2, HH3, HO7⟩
        case measure => (simp [intOf]; omega)
    · obtain rfl : k = KL.length := by omega
      as_aux_lemma =>
        rw [List.take_length] at HID HH
        have hkn : ¬ ((KL.length : Nat) : Int) < ((KL.length : Nat) : Int) := by omega
        have HW : Hid (∀ w', Only (fun _ => False) wr w' → Only (fun x => x = g6) w1 w') := Lib.hid (fun w' ho => HO.out.trans (ho.mono (fun _ _ f => f.elim)))
        have HFIN : Hid (∀ w', Only (fun _ => False) wr w' → Only (fun _ => False) w w') := Lib.hid (fun w' ho => HO1.out.then (HW.out w' ho) (fun x hx e => by have e : x = g6 := e; have := HG6.out.1; omega))
        have HRT : Hid (∀ x ∈ KL, rightB x = true) := Lib.hid (fun x hx => (HT.out.ok.rt x hx).1)
        have HRL : Hid (∀ x ∈ L, rightB x.sx = true) := Lib.hid (fun x hx => HRT.out _ (by rw [← HT.out.e1]; exact List.mem_map.2 ⟨x, hx, rfl⟩))
        have HIB : Hid (∀ c ∈ KL.map Sx.i, -9223372036854775808 ≤ c ∧ c ≤ 9223372036854775807) := Lib.hid (fun c hc => by
          obtain ⟨x, hx, rfl⟩ := List.mem_map.1 hc
          have h := (rightB_iff _).1 (HRT.out x hx)
          have h2 := h.2.1
          unfold numOk at h2
          omega)
        have HIL : Hid ((KL.map Sx.i).length ≤ 1000000) := Lib.hid (by rw [List.length_map]; omega)
        have hnl : (KL.map Sx.i).length = KL.length := List.length_map ..
        obtain ⟨da, dc, hdv, hdr⟩ := HID.out.reads HIB.out HIL.out
        rw [hnl] at hdv hdr
        subst hdv
        have HDR := Lib.hid hdr
        clear hdr
        have HEI : Hid (L.map Sd.i = KL.map Sx.i) := Lib.hid (by rw [← HT.out.e1, List.map_map]; rfl)
        have HGB : Hid (∀ m : Int, ∀ x ∈ gOf KL m, -9223372036854775808 ≤ x.a ∧ x.a ≤ 9223372036854775807) := Lib.hid (fun m x hx => by
          obtain ⟨s, hs, hy⟩ := gOf_mem hx
          have h := grsB_ok ((rightB_iff _).1 (HRT.out s hs)).2.2.2.2.2.2 x hy
          unfold grOk at h
          omega)
        have HGL : Hid (∀ m : Int, (gOf KL m).length ≤ 64) := Lib.hid (fun m => by have h := HG4.out KL.length m (Nat.le_refl _); rw [List.take_length] at h; exact h)
        have HHE : Hid (∀ m : Int, intOr (((gOf KL m).map Gr.a).sum) = heldOf KL m) := Lib.hid (fun m => by
          rw [gOf_sum]
          have h := heldOf_bd KL m HRT.out
          unfold intOr
          rw [if_pos ((isInt_iff _).2 (by omega))])
        have HCH0 : Hid (∀ (m : Int) w', Only (fun _ => False) wr w' → Calls Try.prog 16 #[.pointer (some ⟨p, 0, none⟩), .int .i64 m] w' fun e w2 => e = .returned (.int .i64 (heldOf KL m)) ∧ Only (fun _ => False) w' w2) := Lib.hid (fun m w' ho => by
          have h := cheld_any p pl last v L m w' (HTK.out w' (HW.out w' ho)).pt HRL.out
          rw [HT.out.e1] at h
          exact h)
        have HRH0 : Hid (∀ (m : Int) w' ga gc, Only (fun _ => False) wr w' → ReadsG w' ga (gOf KL m).length (gOf KL m) → Calls Try.prog 40 #[.slice ga (gOf KL m).length gc] w' fun e w2 => e = .returned (.int .i64 (heldOf KL m)) ∧ Only (fun _ => False) w' w2) := Lib.hid (fun m w' ga gc ho hr => by
          have h := rheld_any ga (gOf KL m).length gc (gOf KL m) w' hr (HGB.out m) (by have := HGL.out m; omega)
          rw [HHE.out m] at h
          exact h)
        clear HR2 HKK HL1K HG4
        go_wp2_with fail
        go_loopw [10] (fun iv wz => ∃ (k : Nat), k ≤ 33 ∧ iv = .int .i64 (k : Int) ∧ Hid (Only (fun _ => False) wr wz)) (fun iv _ => 33 - (intOf iv).toNat)
        case atStart => exact ⟨0, by omega, rfl, Lib.hid (Only.refl _ _)⟩
        case round =>
          obtain ⟨k, hk, rfl, HO2⟩ := hrel
          rename World => wz
          by_cases h8 : k < 33
          · have hk33 : (k : Int) < 33 := by omega
            have hk32 : (k : Int) ≤ 32 := by omega
            have hk0 : (0 : Int) ≤ (k : Int) := by omega
            have hwk : wrap64 ((k : Int) + 1) = (k : Int) + 1 := by unfold wrap64; omega
            obtain ⟨ga, gc, hgf, -, hrd, -⟩ := own_G (t := 92) (HH.out.o k h8) rfl
            have HGR := Lib.hid hrd
            have HS14 : Hid (∀ w', Only (fun _ => False) wz w' → w'.cell? ⟨g6, k, none⟩ = some (.slice ga (gOf KL (k : Int)).length gc)) := Lib.hid (fun w' ho => by rw [← hgf]; exact (HO2.out.trans ho).cell' (HH.out.c k h8) (fun f => f))
            have HCH : Hid (∀ w', Only (fun _ => False) wz w' → Calls _ _ _ w' _) := Lib.hid (fun w' (ho : Only (fun _ => False) wz w') => HCH0.out (k : Int) w' (HO2.out.trans ho))
            have HRH : Hid (∀ w', Only (fun _ => False) wz w' → Calls _ _ _ w' _) := Lib.hid (fun w' (ho : Only (fun _ => False) wz w') => HRH0.out (k : Int) w' ga gc (HO2.out.trans ho) (HGR.out.quiet (HO2.out.trans ho)))
            generalize heldOf KL (k : Int) = hh at *
            clear hrd hgf
            go_upto_region 14 with fail
            refine wp_region_noPanic ?_
            refine wp_region_held_drew (S := (fun w' => w'.cell? ⟨g6, k, none⟩ = some (.slice ga (gOf KL (k : Int)).length gc))) (by kernel_rfl) (HS14.out _ (Only.refl _ _).drew) (fun hHeld => ?_)
            obtain ⟨y0, hy0⟩ : ∃ x, x = wz.drew := ⟨_, rfl⟩
            rw [← hy0] at hHeld ⊢
            have hot : Hid (Only (fun _ => False) wz y0) := Lib.hid (by rw [hy0]; exact (Only.refl _ _).drew)
            clear hy0
            refine wpAnyH_take (i := 0) (v := ?_) rfl (by kernel_rfl) (by kernel_rfl) (by kernel_rfl) (fun _ _ _ h => h) (Or.inl ⟨by rfl, ?_⟩) (by assumption) ?_
            rotate_left 1
            · intro w' hSw
              try dsimp only at hSw
              go_simp
              try with_reducible rfl
            try simp only [List.getElem_toArray, List.getElem_cons_zero, Act.put, List.setIfInBounds_toArray, List.set_cons_zero, List.set_cons_succ]
            refine wpAnyH_take (i := 1) (v := ?_) rfl (by kernel_rfl) (by kernel_rfl) (by kernel_rfl) (fun _ _ _ h => h) (Or.inl ⟨by rfl, ?_⟩) (by assumption) ?_
            rotate_left 1
            · intro w' hSw
              try dsimp only at hSw
              go_simp
              try with_reducible rfl
            try simp only [List.getElem_toArray, List.getElem_cons_zero, List.getElem_cons_succ, Act.put, List.setIfInBounds_toArray, List.set_cons_zero, List.set_cons_succ]
            refine wpAnyH_take (i := 3) (v := ?_) rfl (by kernel_rfl) (by kernel_rfl) (by kernel_rfl) (fun _ _ _ h => h) (Or.inl ⟨by rfl, ?_⟩) (by assumption) ?_
            rotate_left 1
            · intro w' hSw
              try dsimp only at hSw
              go_simp
              try with_reducible rfl
            try simp only [List.getElem_toArray, List.getElem_cons_zero, List.getElem_cons_succ, Act.put, List.setIfInBounds_toArray, List.set_cons_zero, List.set_cons_succ]
            refine wpAnyH_take (i := 4) (v := ?_) rfl (by kernel_rfl) (by kernel_rfl) (by kernel_rfl) (fun _ _ _ h => h) (Or.inl ⟨by rfl, ?_⟩) (by assumption) ?_
            rotate_left 1
            · intro w' hSw
              try dsimp only at hSw
              go_simp
              try with_reducible rfl
            try simp only [List.getElem_toArray, List.getElem_cons_zero, List.getElem_cons_succ, Act.put, List.setIfInBounds_toArray, List.set_cons_zero, List.set_cons_succ]
            refine wpAnyH_take (i := 5) (v := ?_) rfl (by kernel_rfl) (by kernel_rfl) (by kernel_rfl) (fun _ _ _ h => h) (Or.inl ⟨by rfl, ?_⟩) (by assumption) ?_
            rotate_left 1
            · intro w' hSw
              try dsimp only at hSw
              go_simp
              try with_reducible rfl
            try simp only [List.getElem_toArray, List.getElem_cons_zero, List.getElem_cons_succ, Act.put, List.setIfInBounds_toArray, List.set_cons_zero, List.set_cons_succ]
            refine wpAnyH_ready (rs := [2]) (by kernel_rfl) (by simp) ?_
            refine AllReadyH.cons rfl (fun K hK => ?_) AllReadyH.nil
            try simp only [List.getElem_toArray, List.getElem_cons_zero, List.getElem_cons_succ]
            go_simp
            go_at_call 16
            with_reducible refine (HCH.out _ hot.out).mono ?_
            rintro _ W1 ⟨rfl, ho⟩
            replace hot := Lib.hid (hot.out.trans ho)
            clear ho
            try dsimp only
            refine hK.out _ _ (HS14.out _ hot.out) (fun hHeld1 => ?_)
            clear hK K
            try simp only [List.getElem_toArray, List.getElem_cons_zero, List.getElem_cons_succ, Act.put, List.setIfInBounds_toArray, List.set_cons_zero, List.set_cons_succ]
            refine wpAnyH_ready (rs := [6]) (by kernel_rfl) (by simp) ?_
            refine AllReadyH.cons rfl (fun K hK => ?_) AllReadyH.nil
            try simp only [List.getElem_toArray, List.getElem_cons_zero, List.getElem_cons_succ]
            go_simp
            go_at_call 40
            with_reducible refine (HRH.out _ hot.out).mono ?_
            rintro _ W2 ⟨rfl, ho⟩
            replace hot := Lib.hid (hot.out.trans ho)
            clear ho
            try dsimp only
            refine hK.out _ _ (HS14.out _ hot.out) (fun hHeld2 => ?_)
            clear hK K
            try simp only [List.getElem_toArray, List.getElem_cons_zero, List.getElem_cons_succ, Act.put, List.setIfInBounds_toArray, List.set_cons_zero, List.set_cons_succ]
            refine wpAnyH_take (i := 7) (v := ?_) rfl (by kernel_rfl) (by kernel_rfl) (by kernel_rfl) (fun _ _ _ h => h) (Or.inl ⟨by rfl, ?_⟩) (by assumption) ?_
            rotate_left 1
            · intro w' hSw
              try dsimp only at hSw
              go_simp
              try with_reducible rfl
            try simp only [List.getElem_toArray, List.getElem_cons_zero, List.getElem_cons_succ, Act.put, List.setIfInBounds_toArray, List.set_cons_zero, List.set_cons_succ]
            refine wpAnyH_done (by kernel_rfl) ?_ _
            refine NoPanic.normal ?_
            have HO3 := Lib.hid (HO2.out.trans hot.out)
            clear hHeld
            go_wp2_with fail
            go_roundw
            case rel => exact ⟨k + 1, by omega, by go_num, HO3⟩
            case measure => (simp [intOf]; omega)
          · have hk32 : ¬ (k : Int) ≤ 32 := by omega
            have HS16 : Hid (∀ w', Only (fun _ => False) wz w' → w'.cell? ⟨q, 1, none⟩ = some (.int .i64 last)) := Lib.hid (fun w' ho => (HTK.out w' (HW.out w' (HO2.out.trans ho))).dt.c1)
            have HCI : Hid (∀ w', Only (fun _ => False) wz w' → Calls Try.prog 14 #[.pointer (some ⟨p, 0, none⟩)] w' fun e w2 => (∃ ia ic, e = .returned (.slice ia KL.length ic) ∧ ReadsI w2 ia KL.length (KL.map Sx.i)) ∧ Only (fun _ => False) w' w2) := Lib.hid (fun w' ho => by
              have h := cids_any p pl last v L w' (HTK.out w' (HW.out w' (HO2.out.trans ho))).pt
              rw [HEI.out] at h
              refine h.mono ?_
              rintro e w2 ⟨⟨v', rfl, ho2⟩, ho3⟩
              obtain ⟨ia, ic, hv, hr⟩ := ho2.reads HIB.out HIL.out
              rw [hnl] at hv hr
              subst hv
              exact ⟨⟨ia, ic, rfl, hr⟩, ho3⟩)
            have HSM : Hid (∀ w' ia ic, Only (fun _ => False) wz w' → ReadsI w' ia KL.length (KL.map Sx.i) → Calls Try.prog 41 #[.slice ia KL.length ic, .slice da KL.length dc] w' fun e w2 => e = .returned (.bool true) ∧ Only (fun _ => False) w' w2) := Lib.hid (fun w' ia ic ho h1 => owi.same_any ia da _ ic dc (KL.map Sx.i) w' h1 (HDR.out.only (HO2.out.trans ho) (fun x e f => f)))
            have HCL : Hid (∀ w', Only (fun _ => False) wz w' → Calls _ _ _ w' _) := Lib.hid (fun w' (ho : Only (fun _ => False) wz w') => clast_any p pl last v L w' (HTK.out w' (HW.out w' (HO2.out.trans ho))).pt)
            go_upto_region 16 with fail
            refine wp_region_noPanic ?_
            refine wp_region_held_drew (S := (fun w' => w'.cell? ⟨q, 1, none⟩ = some (.int .i64 last))) (by kernel_rfl) (HS16.out _ (Only.refl _ _).drew) (fun hHeld => ?_)
            obtain ⟨y0, hy0⟩ : ∃ x, x = wz.drew := ⟨_, rfl⟩
            rw [← hy0] at hHeld ⊢
            have hot : Hid (Only (fun _ => False) wz y0) := Lib.hid (by rw [hy0]; exact (Only.refl _ _).drew)
            clear hy0
            refine wpAnyH_take (i := 0) (v := ?_) rfl (by kernel_rfl) (by kernel_rfl) (by kernel_rfl) (fun _ _ _ h => h) (Or.inl ⟨by rfl, ?_⟩) (by assumption) ?_
            rotate_left 1
            · intro w' hSw
              try dsimp only at hSw
              go_simp
              try with_reducible rfl
            try simp only [List.getElem_toArray, List.getElem_cons_zero, Act.put, List.setIfInBounds_toArray, List.set_cons_zero, List.set_cons_succ]
            refine wpAnyH_take (i := 2) (v := ?_) rfl (by kernel_rfl) (by kernel_rfl) (by kernel_rfl) (fun _ _ _ h => h) (Or.inl ⟨by rfl, ?_⟩) (by assumption) ?_
            rotate_left 1
            · intro w' hSw
              try dsimp only at hSw
              go_simp
              try with_reducible rfl
            try simp only [List.getElem_toArray, List.getElem_cons_zero, List.getElem_cons_succ, Act.put, List.setIfInBounds_toArray, List.set_cons_zero, List.set_cons_succ]
            refine wpAnyH_ready (rs := [1]) (by kernel_rfl) (by simp) ?_
            refine AllReadyH.cons rfl (fun K hK => ?_) AllReadyH.nil
            try simp only [List.getElem_toArray, List.getElem_cons_zero, List.getElem_cons_succ]
            go_simp
            go_at_call 14
            with_reducible refine (HCI.out _ hot.out).mono ?_
            rintro _ W1 ⟨⟨ia, ic, rfl, hir⟩, ho⟩
            have HIA := Lib.hid hir
            clear hir
            replace hot := Lib.hid (hot.out.trans ho)
            clear ho
            try dsimp only
            refine hK.out _ _ (HS16.out _ hot.out) (fun hHeld1 => ?_)
            clear hK K
            try simp only [List.getElem_toArray, List.getElem_cons_zero, List.getElem_cons_succ, Act.put, List.setIfInBounds_toArray, List.set_cons_zero, List.set_cons_succ]
            refine wpAnyH_ready (rs := [3]) (by kernel_rfl) (by simp) ?_
            refine AllReadyH.cons rfl (fun K hK => ?_) AllReadyH.nil
            try simp only [List.getElem_toArray, List.getElem_cons_zero, List.getElem_cons_succ]
            go_simp
            go_at_call 41
            with_reducible refine (HSM.out _ ia ic hot.out HIA.out).mono ?_
            rintro _ W2 ⟨rfl, ho⟩
            replace hot := Lib.hid (hot.out.trans ho)
            clear ho
            try dsimp only
            refine hK.out _ _ (HS16.out _ hot.out) (fun hHeld2 => ?_)
            clear hK K
            try simp only [List.getElem_toArray, List.getElem_cons_zero, List.getElem_cons_succ, Act.put, List.setIfInBounds_toArray, List.set_cons_zero, List.set_cons_succ]
            refine wpAnyH_take (i := 4) (v := ?_) rfl (by kernel_rfl) (by kernel_rfl) (by kernel_rfl) (fun _ _ _ h => h) (Or.inl ⟨by rfl, ?_⟩) (by assumption) ?_
            rotate_left 1
            · intro w' hSw
              try dsimp only at hSw
              go_simp
              try with_reducible rfl
            try simp only [List.getElem_toArray, List.getElem_cons_zero, List.getElem_cons_succ, Act.put, List.setIfInBounds_toArray, List.set_cons_zero, List.set_cons_succ]
            refine wpAnyH_take (i := 5) (v := ?_) rfl (by kernel_rfl) (by kernel_rfl) (by kernel_rfl) (fun _ _ _ h => h) (Or.inl ⟨by rfl, ?_⟩) (by assumption) ?_
            rotate_left 1
            · intro w' hSw
              try dsimp only at hSw
              go_simp
              try with_reducible rfl
            try simp only [List.getElem_toArray, List.getElem_cons_zero, List.getElem_cons_succ, Act.put, List.setIfInBounds_toArray, List.set_cons_zero, List.set_cons_succ]
            refine wpAnyH_take (i := 7) (v := ?_) rfl (by kernel_rfl) (by kernel_rfl) (by kernel_rfl) (fun _ _ _ h => h) (Or.inl ⟨by rfl, ?_⟩) (by assumption) ?_
            rotate_left 1
            · intro w' hSw
              try dsimp only at hSw
              go_simp
              try with_reducible rfl
            try simp only [List.getElem_toArray, List.getElem_cons_zero, List.getElem_cons_succ, Act.put, List.setIfInBounds_toArray, List.set_cons_zero, List.set_cons_succ]
            refine wpAnyH_take (i := 8) (v := ?_) rfl (by kernel_rfl) (by kernel_rfl) (by kernel_rfl) (fun _ _ _ h => h) (Or.inl ⟨by rfl, ?_⟩) (by assumption) ?_
            rotate_left 1
            · intro w' hSw
              try dsimp only at hSw
              go_simp
              try with_reducible rfl
            try simp only [List.getElem_toArray, List.getElem_cons_zero, List.getElem_cons_succ, Act.put, List.setIfInBounds_toArray, List.set_cons_zero, List.set_cons_succ]
            refine wpAnyH_take (i := 9) (v := ?_) rfl (by kernel_rfl) (by kernel_rfl) (by kernel_rfl) (fun _ _ _ h => h) (Or.inl ⟨by rfl, ?_⟩) (by assumption) ?_
            rotate_left 1
            · intro w' hSw
              try dsimp only at hSw
              go_simp
              try with_reducible rfl
            try simp only [List.getElem_toArray, List.getElem_cons_zero, List.getElem_cons_succ, Act.put, List.setIfInBounds_toArray, List.set_cons_zero, List.set_cons_succ]
            refine wpAnyH_take (i := 10) (v := ?_) rfl (by kernel_rfl) (by kernel_rfl) (by kernel_rfl) (fun _ _ _ h => h) (Or.inl ⟨by rfl, ?_⟩) (by assumption) ?_
            rotate_left 1
            · intro w' hSw
              try dsimp only at hSw
              go_simp
              try with_reducible rfl
            try simp only [List.getElem_toArray, List.getElem_cons_zero, List.getElem_cons_succ, Act.put, List.setIfInBounds_toArray, List.set_cons_zero, List.set_cons_succ]
            refine wpAnyH_ready (rs := [6]) (by kernel_rfl) (by simp) ?_
            refine AllReadyH.cons rfl (fun K hK => ?_) AllReadyH.nil
            try simp only [List.getElem_toArray, List.getElem_cons_zero, List.getElem_cons_succ]
            go_simp
            go_at_call 15
            with_reducible refine (HCL.out _ hot.out).mono ?_
            rintro _ W3 ⟨rfl, ho⟩
            replace hot := Lib.hid (hot.out.trans ho)
            clear ho
            try dsimp only
            refine hK.out _ _ (HS16.out _ hot.out) (fun hHeld3 => ?_)
            clear hK K
            try simp only [List.getElem_toArray, List.getElem_cons_zero, List.getElem_cons_succ, Act.put, List.setIfInBounds_toArray, List.set_cons_zero, List.set_cons_succ]
            refine wpAnyH_take (i := 11) (v := ?_) rfl (by kernel_rfl) (by kernel_rfl) (by kernel_rfl) (fun _ _ _ h => h) (Or.inl ⟨by rfl, ?_⟩) (by assumption) ?_
            rotate_left 1
            · intro w' hSw
              try dsimp only at hSw
              go_simp
              try with_reducible rfl
            try simp only [List.getElem_toArray, List.getElem_cons_zero, List.getElem_cons_succ, Act.put, List.setIfInBounds_toArray, List.set_cons_zero, List.set_cons_succ]
            refine wpAnyH_take (i := 12) (v := ?_) rfl (by kernel_rfl) (by kernel_rfl) (by kernel_rfl) (fun _ _ _ h => h) (Or.inl ⟨by rfl, ?_⟩) (by assumption) ?_
            rotate_left 1
            · intro w' hSw
              try dsimp only at hSw
              go_simp
              try with_reducible rfl
            try simp only [List.getElem_toArray, List.getElem_cons_zero, List.getElem_cons_succ, Act.put, List.setIfInBounds_toArray, List.set_cons_zero, List.set_cons_succ]
            refine wpAnyH_take (i := 13) (v := ?_) rfl (by kernel_rfl) (by kernel_rfl) (by kernel_rfl) (fun _ _ _ h => h) (Or.inl ⟨by rfl, ?_⟩) (by assumption) ?_
            rotate_left 1
            · intro w' hSw
              try dsimp only at hSw
              go_simp
              try with_reducible rfl
            try simp only [List.getElem_toArray, List.getElem_cons_zero, List.getElem_cons_succ, Act.put, List.setIfInBounds_toArray, List.set_cons_zero, List.set_cons_succ]
            refine wpAnyH_done (by kernel_rfl) ?_ _
            refine NoPanic.normal ?_
            have HO3 := Lib.hid (HO2.out.trans hot.out)
            clear hHeld
            go_wp2_with fail
            go_ret
            exact ⟨by simp, HFIN.out _ HO3.out⟩
end Go.Proofs.Ythflglejhhebeaa.cs
