/- Several texts together: MapF. -/
import Derived.Test.YtkbaafgaaiekpaaGreatPeriodRestoresZ18
import Derived.Maps.OwnSet
import Derived.Maps.RangeWalk
import Derived.Maps.Views
import Derived.Maps.OwnOps
import Derived.Deep.MidRow
import Derived.RegionTactic
import Derived.ChangeAlike
import Derived.Outline
namespace Go.Proofs.YtkbaafgaaiekpaaGreat.mpf
open Go.RowKit mem Go.WideShapes Go.ChangeMaps
set_option linter.unusedVariables false
def toI : Value → Option Int
  | .int .i64 n => some n
  | _ => none
theorem toI_inv {v : Value} {n : Int} (h : toI v = some n) : v = .int .i64 n := by
  unfold toI at h; split at h
  · rw [Option.some.inj h]
  · cases h
def rd : List Value → Option fnd.Ac
  | [a, b, c, d, e] => (toI a).bind fun t => (toI b).bind fun c2 => (toI c).bind fun e2 => (toI d).bind fun u => (toI e).bind fun h => some ⟨t, c2, e2, u, h⟩
  | _ => none
theorem rd_inv {l : List Value} {x : fnd.Ac} (h : rd l = some x) : l = fnd.encA x := by
  unfold rd at h; split at h
  · rename_i a b c d e
    simp only [Option.bind_eq_some_iff] at h; obtain ⟨t, h1, c2, h2, e2, h3, u, h4, h5, h6, h7⟩ := h; rw [← Option.some.inj h7, toI_inv h1, toI_inv h2, toI_inv h3, toI_inv h4, toI_inv h6]
    rfl
  · cases h
def dat (a : fnd.Ac) : DataW Unit := .agg [.lit (.int .i64 a.t), .lit (.int .i64 a.c), .lit (.int .i64 a.e), .lit (.int .i64 a.u), .lit (.int .i64 a.h)]
def Rs : Value → Option (DataW Unit × List MemPlace)
  | .agg cs => (rd cs.toList).map fun a => (dat a, [])
  | _ => none
theorem Rs_mk (a : fnd.Ac) : Rs (fnd.aggA a) = some (dat a, []) := rfl
theorem Rs_inv {v : Value} {z : DataW Unit × List MemPlace} (h : Rs v = some z) : ∃ a, v = fnd.aggA a ∧ z.1 = dat a := by
  unfold Rs at h; split at h
  · rename_i cs
    obtain ⟨a, h1, h2⟩ := Option.map_eq_some_iff.1 h; refine ⟨a, ?_, by rw [← h2]⟩; have e := rd_inv h1; have e2 : cs = (fnd.encA a).toArray := (by rw [← e]); rw [e2]
    rfl
  · cases h
theorem dat_inj {a b : fnd.Ac} (h : dat a = dat b) : a = b := by
  obtain ⟨t, c, e, u, h5⟩ := a; obtain ⟨t2, c2, e2, u2, h2⟩ := b; unfold dat at h; simp at h; obtain ⟨rfl, rfl, rfl, rfl, rfl⟩ := h
  rfl
theorem keyed : Maps.Keyed Tryz.prog 3 := Maps.int_keyed Tryz.underlying3
theorem zero_sec (w : World) : (zeroValue 58).run Tryz.prog w = .ok (fnd.aggA fnd.zA) w := by kernel_rfl
theorem wf_nat {i : Nat} (h : i ≤ 9223372036854775807) : (Lit.int .i64 (i : Int)).wf = true := by
  simp [Lit.wf, IntKind.min, IntKind.max, IntKind.signed, IntKind.bits]; omega
theorem key_nat {i : Nat} (h : i ≤ 9223372036854775807) : keyOf Tryz.prog 3 (.int .i64 (i : Int)) = some (.int .i64 (i : Int)) := Maps.keyOf_int_mk Tryz.underlying3 (wf_nat h)
def MapC (w : World) (b n : Nat) (C : Nat → Option fnd.Ac) : Prop :=
  ∃ D : DataW Unit, w.ownsMap Tryz.prog 3 Rs b n D ∧ (∀ kl, Maps.has D kl = true → ∃ i : Nat, kl = .int .i64 (i : Int) ∧ i < n ∧ (C i).isSome = true) ∧
    (∀ i, C i = none → Maps.has D (.int .i64 ((i : Nat) : Int)) = false) ∧ ∀ i l, C i = some l → Maps.has D (.int .i64 (i : Int)) = true ∧ ∀ zd, D.atKey (.int .i64 (i : Int)) zd = dat l
theorem MapC.lt {w : World} {b n : Nat} {C : Nat → Option fnd.Ac} (h : MapC w b n C) : b < w.heap.size := by obtain ⟨D, h, _⟩ := h; exact h.lt
theorem MapC.only {S : Nat → Prop} {w w' : World} {b n : Nat} {C : Nat → Option fnd.Ac} (h : MapC w b n C) (ho : Only S w w') (hs : ¬ S b) : MapC w' b n C := by
  obtain ⟨D, hD, r⟩ := h; have hlt := hD.lt; obtain ⟨es, clock, hb, F, hs2, he⟩ := hD; exact ⟨D, ⟨es, clock, (ho.block b hlt hs).trans hb, F, hs2, he⟩, r⟩
theorem MapC.made (w : World) (n : Nat) : MapC (w.alloc (.map #[] 0)) w.heap.size n (fun _ => none) :=
  ⟨.map [], (World.ownsMap_made w _ _ _).mono (Nat.zero_le _), fun kl h => by simp [Maps.has] at h, fun i _ => by simp [Maps.has], fun i l h => by cases h⟩
theorem MapC.look {w : World} {b n : Nat} {C : Nat → Option fnd.Ac} (h : MapC w b n C) (i : Nat) (hi : i ≤ 9223372036854775807) :
    (Instr.lookup 63 (.map (some b)) (.int .i64 (i : Int)) false).run Tryz.prog w = .ok (fnd.aggA ((C i).getD fnd.zA)) w := by
  obtain ⟨D, h1, h2, h3, h4⟩ := h; obtain ⟨v, ps, hrun, hR⟩ := h1.lookup keyed Tryz.underlying63 (zero_sec w) (Rs_mk fnd.zA) (key_nat hi); rw [hrun]; obtain ⟨l, rfl, hz⟩ := Rs_inv hR
  cases hc : C i with
  | none =>
    have := h3 i hc; have e := Maps.atKey_of_not_has this (dat fnd.zA); simp only [e] at hz; rw [dat_inj hz]; rfl
  | some l' =>
    obtain ⟨g2, g3⟩ := h4 i l' hc; simp only [g3] at hz; rw [dat_inj hz]; rfl
theorem nodup_le : ∀ (n : Nat) (l : List Nat), l.Nodup → (∀ x ∈ l, x < n) → l.length ≤ n := by
  intro n
  induction n with
  | zero => intro l _ h; cases l with
    | nil => simp
    | cons a l => have := h a (by simp); omega
  | succ n ih =>
    intro l hn h
    by_cases hm : n ∈ l
    · have h1 := ih (l.erase n) (hn.erase n) (fun x hx => by
        have h2 := (hn.mem_erase_iff).1 hx; have := h x h2.2; omega)
      rw [List.length_erase_of_mem hm] at h1; omega
    · have := ih l hn (fun x hx => by have := h x hx; have : x ≠ n := fun e => hm (e ▸ hx); omega); omega
def updC (C : Nat → Option fnd.Ac) (i : Nat) (l : fnd.Ac) : Nat → Option fnd.Ac := fun j => if j = i then some l else C j
theorem lit_ne {i j : Nat} (h : i ≠ j) : (Lit.int .i64 (i : Int)) ≠ .int .i64 (j : Int) := fun e => h (by injection e with _ e; omega)
def litN : Lit → Nat
  | .int _ z => z.toNat
  | _ => 0
theorem size_bound {es : List (Lit × DataW Unit)} {n : Nat} (hp : es.Pairwise (fun p q => p.1 ≠ q.1)) (hk : ∀ p ∈ es, ∃ i : Nat, p.1 = .int .i64 (i : Int) ∧ i < n) : es.length ≤ n := by
  have h := nodup_le n (es.map fun p => litN p.1) ?_ ?_
  · simpa using h
  · unfold List.Nodup; rw [List.pairwise_map]; refine hp.imp_of_mem (fun {a c} ha hc hne e => hne ?_); obtain ⟨i, hi, _⟩ := hk a ha; obtain ⟨j, hj, _⟩ := hk c hc; rw [hi, hj] at e; have : i = j := (by simpa [litN] using e); rw [hi, hj, this]
  · intro x hx; rw [List.mem_map] at hx; obtain ⟨p, hp', rfl⟩ := hx; obtain ⟨i, hi, hlt⟩ := hk p hp'; rw [hi]; simpa [litN] using hlt
structure Like (D : DataW Unit) (n : Nat) (C : Nat → Option fnd.Ac) : Prop where
  inn : ∀ kl, Maps.has D kl = true → ∃ i : Nat, kl = .int .i64 (i : Int) ∧ i < n ∧ (C i).isSome = true
  out : ∀ i, C i = none → Maps.has D (.int .i64 ((i : Nat) : Int)) = false
  val : ∀ i l, C i = some l → Maps.has D (.int .i64 (i : Int)) = true ∧ ∀ zd, D.atKey (.int .i64 (i : Int)) zd = dat l
theorem own_tight {w : World} {b n m : Nat} {D : DataW Unit} {C : Nat → Option fnd.Ac} (h : w.ownsMap Tryz.prog 3 Rs b m D) (hL : Like D n C) : w.ownsMap Tryz.prog 3 Rs b n D := by
  obtain ⟨es0, he0, hp, hkl⟩ := h.entries keyed; obtain ⟨es, clock, hb, F, hs, he⟩ := h; refine ⟨es, clock, hb, F, ?_, he⟩; have h1 : es0.length ≤ n := size_bound hp (fun p hp' => by
    have : Maps.has D p.1 = true := by
      rw [he0, Maps.has_eq, List.any_eq_true]; exact ⟨p, hp', WideAt.sameKey_self (hkl p hp')⟩
    obtain ⟨i, hi, hlt, _⟩ := hL.inn p.1 this; exact ⟨i, hi, hlt⟩)
  have h2 := he0.symm.trans he; injection h2 with h2; have h3 := congrArg List.length h2; rw [length_sorted] at h3; simp at h3; omega
theorem MapC.store {w : World} {b n : Nat} {C : Nat → Option fnd.Ac} (h : MapC w b n C) (i : Nat) (hi : i < n) (hn : n ≤ 140737488355328) (l : fnd.Ac) :
    ∃ w', (Instr.mapUpdate 63 (.map (some b)) (.int .i64 (i : Int)) (fnd.aggA l)).run Tryz.prog w = .ok () w' ∧ MapC w' b n (updC C i l) ∧ Only (fun k => k = b) w w' := by
  obtain ⟨D, h1, h2, h3, h4⟩ := h; have hk : keyOf Tryz.prog 3 (.int .i64 (i : Int)) = some (.int .i64 (i : Int)) := key_nat (by omega); obtain ⟨w', hrun, hown, hturn⟩ := h1.store keyed Tryz.underlying63 (by unfold maxLen; omega) hk (Rs_mk l); have hM : Maps.IsMap D := h1.isMap; have hik : WideAt.IsKeyLit (.int .i64 (i : Int)) := keyed.key hk; have hL : Like (D.put (.int .i64 (i : Int)) (dat l)) n (updC C i l) := by
    refine ⟨?_, ?_, ?_⟩
    · intro kl hkl
      by_cases e : kl = .int .i64 (i : Int)
      · exact ⟨i, e, hi, by unfold updC; rw [if_pos rfl]; rfl⟩
      · rw [Maps.has_put_other e] at hkl; obtain ⟨j, hj, hjn, hjs⟩ := h2 kl hkl; have hne : j ≠ i := fun g => e (by rw [hj, g]); exact ⟨j, hj, hjn, by unfold updC; rw [if_neg hne]; exact hjs⟩
    · intro j hj; unfold updC at hj
      by_cases e : j = i
      · rw [if_pos e] at hj; cases hj
      · rw [if_neg e] at hj; rw [Maps.has_put_other (lit_ne e)]; exact h3 j hj
    · intro j l' hj; unfold updC at hj
      by_cases e : j = i
      · rw [if_pos e] at hj; obtain rfl := Option.some.inj hj; subst e; exact ⟨Maps.has_put_same hM hik _, fun zd => Maps.atKey_put_same hM hik _ _⟩
      · rw [if_neg e] at hj; obtain ⟨g2, g3⟩ := h4 j l' hj; exact ⟨by rw [Maps.has_put_other (lit_ne e)]; exact g2, fun zd => by rw [Maps.atKey_put_other (lit_ne e)]; exact g3 zd⟩
  exact ⟨w', hrun, ⟨_, own_tight hown hL, hL.inn, hL.out, hL.val⟩, (Only.of_grown hturn.grown).mono (fun k _ e => (Option.some.inj e).symm)⟩
theorem MapC.clear {w : World} {b n : Nat} {C : Nat → Option fnd.Ac} (h : MapC w b n C) (ty : TypeId) :
    ∃ w', (Builtin.clear_ #[63] ty #[.map (some b)]).run Tryz.prog w = .ok (.tuple #[]) w' ∧ MapC w' b n (fun _ => none) ∧ Only (fun k => k = b) w w' := by
  obtain ⟨D, ⟨es, clock, hb, F, hs, he⟩, _⟩ := h; refine ⟨setBlock w b (.map #[] clock), ?_, ?_, ?_⟩
  · simp [Builtin.clear_, run_underlying Tryz.underlying63, MapKept.run_getObj_map hb, MapKept.run_setObj_map _ hb, Result.andThen]
    rfl
  · refine ⟨.map [], ⟨#[], clock, heap_setBlock_same hb _, ⟨by simp, MapKept.stamped_empty clock, by simp⟩, Nat.zero_le _, rfl⟩, fun kl h => by simp [Maps.has] at h, fun i _ => by simp [Maps.has], fun i l h => by cases h⟩
  · refine ⟨rfl, rfl, rfl, by simp [setBlock], fun k hk hne => ?_⟩; show (w.heap.setIfInBounds b _)[k]? = _; rw [Array.getElem?_setIfInBounds_ne (fun e => hne e.symm)]
def RangeC (w : World) (b r n : Nat) (C : Nat → Option fnd.Ac) (left : Nat → Bool) (cnt : Nat) : Prop :=
  ∃ (D : DataW Unit) (lf : Lit → Bool), w.ranges Tryz.prog 3 Rs b r n D lf cnt ∧ Like D n C ∧ (∀ i : Nat, lf (.int .i64 (i : Int)) = left i)
theorem RangeC.map {w : World} {b r n cnt : Nat} {C : Nat → Option fnd.Ac} {left : Nat → Bool} (h : RangeC w b r n C left cnt) : MapC w b n C := by
  obtain ⟨D, lf, h1, h2, h3⟩ := h; exact ⟨D, h1.owns, h2.inn, h2.out, h2.val⟩
theorem MapC.like {w : World} {b n : Nat} {C : Nat → Option fnd.Ac} (h : MapC w b n C) : ∃ D, w.ownsMap Tryz.prog 3 Rs b n D ∧ Like D n C := by
  obtain ⟨D, h1, h2, h3, h4⟩ := h; exact ⟨D, h1, h2, h3, h4⟩
theorem MapC.range {w : World} {b n : Nat} {C : Nat → Option fnd.Ac} (h : MapC w b n C) :
    ∃ w' cnt, (Instr.range 63 (.map (some b))).run Tryz.prog w = .ok (.pointer (some ⟨w.heap.size, 0, none⟩)) w' ∧ RangeC w' b w.heap.size n C (fun i => (C i).isSome) cnt ∧ Only (fun _ => False) w w' ∧ w'.heap.size = w.heap.size + 1 := by
  obtain ⟨D, h1, hL⟩ := h.like; obtain ⟨w', hrun, hr, hg, hs⟩ := h1.range keyed Tryz.underlying63; refine ⟨w', _, hrun, ⟨D, _, hr, hL, fun i => ?_⟩, (Only.of_grown hg).mono (fun k _ e => by cases e), hs⟩; show _ = (C i).isSome
  cases hc : C i with
  | none => exact hL.out i hc
  | some l => exact (hL.val i l hc).1
theorem RangeC.next {w : World} {b r n cnt : Nat} {C : Nat → Option fnd.Ac} {left : Nat → Bool} (h : RangeC w b r n C left cnt) (ty : TypeId) :
    ((∀ i, left i = false) ∧ (Instr.next (.pointer (some ⟨r, 0, none⟩)) false ty).run Tryz.prog w = .ok (.tuple #[.bool false]) w) ∨
    ∃ (i : Nat) (l : fnd.Ac) (w' : World) (cnt' : Nat), C i = some l ∧ i < n ∧ left i = true ∧ (Instr.next (.pointer (some ⟨r, 0, none⟩)) false ty).run Tryz.prog w = .ok (.tuple #[.bool true, .int .i64 (i : Int), fnd.aggA l]) w' ∧
      RangeC w' b r n C (fun j => left j && !decide (j = i)) cnt' ∧ cnt' < cnt ∧ Only (fun k => k = r) w w' ∧ w'.heap.size = w.heap.size ∧ (Instr.entry (.pointer (some ⟨r, 0, none⟩))).run Tryz.prog w' = .ok (.tuple #[.int .i64 (i : Int), fnd.aggA l]) w' := by
  obtain ⟨D, lf, hr, hL, hlf⟩ := h; rcases hr.next keyed ty with ⟨h0, hall, hrun⟩ | ⟨key, v, kl, y, w', cnt', hkey, hleft, hR, hat, hrun, hr', hlt, hg, hsz, hent⟩
  · exact .inl ⟨fun i => by rw [← hlf]; exact hall _, hrun⟩
  · have hhas : Maps.has D kl = true := Maps.has_true_of_atKey hat; obtain ⟨i, hi, hin, his⟩ := hL.inn kl hhas; obtain ⟨z, hz, hkl, hwf⟩ := Maps.keyOf_int_inv Tryz.underlying3 hkey; rw [hi] at hkl; obtain rfl : (i : Int) = z := (by injection hkl); obtain ⟨l, hl⟩ := Option.isSome_iff_exists.1 his; obtain ⟨l', rfl, hy⟩ := Rs_inv hR; have hv := (hL.val i l hl).2 (dat fnd.zA); rw [← hi, hat, hy] at hv; have hll := dat_inj hv; subst hz; subst hll; subst hi; refine .inr ⟨i, l', w', cnt', hl, hin, by rw [← hlf]; exact hleft, hrun, ⟨D, _, hr', hL, fun j => ?_⟩, hlt, (Only.of_grown hg).mono (fun k _ e => (Option.some.inj e).symm), hsz, hent⟩; show (lf (.int .i64 (j : Int)) && !(Lit.int .i64 (j : Int)).sameKey (.int .i64 (i : Int))) = (left j && !decide (j = i)); rw [hlf]
    by_cases e : j = i
    · subst e; rw [WideAt.sameKey_self (keyed.key hkey)]; simp
    · rw [Maps.sameKey_ne (lit_ne e)]; simp [e]
theorem RangeC.only {S : Nat → Prop} {w w' : World} {b r n cnt : Nat} {C : Nat → Option fnd.Ac} {left : Nat → Bool} (h : RangeC w b r n C left cnt) (ho : Only S w w') (hb : ¬ S b) (hr : ¬ S r) : RangeC w' b r n C left cnt := by
  obtain ⟨D, lf, h0, hL, hlf⟩ := h; have h1 := h0.owns.lt; have h2 := h0.lt; obtain ⟨es, clock, since, seen, c0, hbk, F, hs, hD, hrr, rest⟩ := h0; exact ⟨D, lf, ⟨es, clock, since, seen, c0, (ho.block b h1 hb).trans hbk, F, hs, hD, (ho.block r h2 hr).trans hrr, rest⟩, hL, hlf⟩
theorem RangeC.ne {w : World} {b r n cnt : Nat} {C : Nat → Option fnd.Ac} {left : Nat → Bool} (h : RangeC w b r n C left cnt) : r ≠ b := by
  obtain ⟨D, lf, h0, hL, hlf⟩ := h; exact h0.ne
def midA (C : Nat → Option fnd.Ac) (left : Nat → Bool) : List fnd.Ac := (List.range 33).map fun i => if left i then fnd.zA else (C i).getD fnd.zA
def allA (C : Nat → Option fnd.Ac) : List fnd.Ac := (List.range 33).map fun i => (C i).getD fnd.zA
theorem midA_len (C : Nat → Option fnd.Ac) (left : Nat → Bool) : (midA C left).length = 33 := by simp [midA]
theorem allA_len (C : Nat → Option fnd.Ac) : (allA C).length = 33 := by simp [allA]
theorem midA_get (C : Nat → Option fnd.Ac) (left : Nat → Bool) {i : Nat} (hi : i < 33) : (midA C left).getD i fnd.zA = if left i then fnd.zA else (C i).getD fnd.zA := by
  unfold midA; rw [List.getD_eq_getElem?_getD, List.getElem?_map, List.getElem?_range hi]
  rfl
theorem allA_get (C : Nat → Option fnd.Ac) {i : Nat} (hi : i < 33) : (allA C).getD i fnd.zA = (C i).getD fnd.zA := by
  unfold allA; rw [List.getD_eq_getElem?_getD, List.getElem?_map, List.getElem?_range hi]
  rfl
theorem acs_ext {a b : List fnd.Ac} (ha : a.length = 33) (hb : b.length = 33) (h : ∀ p, p < 33 → a.getD p fnd.zA = b.getD p fnd.zA) : a = b := by
  apply List.ext_getElem (by omega); intro i h1 h2; have := h i (by omega); simp only [List.getD] at this; rw [List.getElem?_eq_getElem h1, List.getElem?_eq_getElem h2] at this; exact this
theorem midA_start (C : Nat → Option fnd.Ac) : midA C (fun i => (C i).isSome) = fnd.A0 := by
  refine acs_ext (midA_len _ _) (by unfold fnd.A0; simp) (fun i hi => ?_); rw [midA_get C _ hi]; unfold fnd.A0; rw [fnd.getA_rep]
  cases h : C i <;> simp
theorem midA_end (C : Nat → Option fnd.Ac) {left : Nat → Bool} (h : ∀ i, left i = false) : midA C left = allA C := by
  unfold midA allA; apply List.map_congr_left; intro i _; rw [h]
  rfl
theorem midA_step (C : Nat → Option fnd.Ac) (left : Nat → Bool) {i : Nat} (hi : i < 33) {a : fnd.Ac} (hc : C i = some a) : (midA C left).set i a = midA C (fun j => left j && !decide (j = i)) := by
  refine acs_ext (by rw [List.length_set]; exact midA_len _ _) (midA_len _ _) (fun j hj => ?_); rw [midA_get C _ hj]
  by_cases e : j = i
  · subst e; rw [List.getD_eq_getElem?_getD, List.getElem?_set_self (by rw [midA_len]; exact hj)]; simp [hc]
  · have h1 : ((midA C left).set i a).getD j fnd.zA = (midA C left).getD j fnd.zA := by
      simp only [List.getD]; rw [List.getElem?_set_ne (fun x => e x.symm)]
    rw [h1, midA_get C _ hj]; simp [e]
end Go.Proofs.YtkbaafgaaiekpaaGreat.mpf
