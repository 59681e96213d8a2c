/- Sectors as values, and the cache of them: a map by numbers. -/
import Derived.Test.YtcbpgplmphgcgaaMem
import Derived.Maps.OwnSet
import Derived.Maps.RangeWalk
import Derived.Maps.Views
import Derived.Maps.OwnOps
import Derived.Deep.MidRow
import Derived.RegionTactic
import Derived.ChangeAlike
import Derived.Outline
namespace Go.Proofs.Ytcbpgplmphgcgaa.dskw
open Go.RowKit mem Go.WideShapes Go.ChangeMaps
set_option linter.unusedVariables false

/-- 64 bytes -/
def Sec (l : List Nat) : Prop := l.length = 64 ∧ ∀ c ∈ l, c < 256
def zeros : List Nat := List.replicate 64 0
theorem sec_zeros : Sec zeros := ⟨by simp [zeros], by intro c hc; simp [zeros] at hc; omega⟩

def toD : Value → DataW Unit
  | .int k n => .lit (.int k n)
  | _ => .nil
def okC : Value → Bool
  | .int .u8 n => decide (0 ≤ n) && decide (n < 256)
  | _ => false
def Rs : Value → Option (DataW Unit × List MemPlace)
  | .agg cs => if cs.size = 64 ∧ cs.toList.all okC = true then some (.agg (cs.toList.map toD), []) else none
  | _ => none

def sec (l : List Nat) : Value := .agg (bv l).toArray
def dat (l : List Nat) : DataW Unit := .agg ((bv l).map toD)

theorem Rs_mk {l : List Nat} (h : Sec l) : Rs (sec l) = some (dat l, []) := by
  have h1 : (bv l).all okC = true := by
    rw [List.all_eq_true]
    intro v hv
    simp only [bv, List.mem_map] at hv
    obtain ⟨c, hc, rfl⟩ := hv
    have := h.2 c hc
    simp [okC]; omega
  have h2 : (bv l).toArray.size = 64 := by simp [bv_length, h.1]
  unfold Rs sec
  simp only
  rw [if_pos ⟨h2, by simpa using h1⟩]
  rfl

theorem okC_inv {v : Value} (h : okC v = true) : ∃ c : Nat, c < 256 ∧ v = .int .u8 (c : Int) := by
  unfold okC at h
  split at h
  · rename_i n
    simp at h
    exact ⟨n.toNat, by omega, by congr 1; omega⟩
  · cases h

theorem list_okC : ∀ (vs : List Value), vs.all okC = true → ∃ l : List Nat, (∀ c ∈ l, c < 256) ∧ vs = bv l := by
  intro vs
  induction vs with
  | nil => intro _; exact ⟨[], by simp, rfl⟩
  | cons v vs ih =>
    intro h
    rw [List.all_cons, Bool.and_eq_true] at h
    obtain ⟨c, hc, rfl⟩ := okC_inv h.1
    obtain ⟨l, hl, rfl⟩ := ih h.2
    exact ⟨c :: l, by intro d hd; rcases List.mem_cons.1 hd with rfl | h2; exact hc; exact hl d h2, rfl⟩

theorem Rs_inv {v : Value} {z : DataW Unit × List MemPlace} (h : Rs v = some z) : ∃ l, Sec l ∧ v = sec l ∧ z.1 = dat l := by
  unfold Rs at h
  split at h
  · rename_i cs
    split at h
    · rename_i hc
      obtain ⟨l, hl, he⟩ := list_okC cs.toList hc.2
      have hlen : l.length = 64 := by
        have := congrArg List.length he
        rw [bv_length] at this
        have h64 := hc.1
        simp at this; omega
      have hcs : cs = (bv l).toArray := by rw [← he]
      refine ⟨l, ⟨hlen, hl⟩, by unfold sec; rw [← hcs], ?_⟩
      have := (Option.some.inj h).symm
      rw [this]; unfold dat; rw [← he]
    · cases h
  · cases h

theorem bv_inj {l r : List Nat} (h : bv l = bv r) : l = r := by
  unfold bv at h
  exact (List.map_inj_right (fun a b hab => by injection hab with _ h2; omega)).1 h

theorem dat_inj {l r : List Nat} (h : dat l = dat r) : l = r := by
  apply bv_inj
  unfold dat at h
  injection h with h
  have : ∀ x y : Nat, toD (Value.int .u8 ((x : Nat) : Int)) = toD (Value.int .u8 ((y : Nat) : Int)) → x = y := by
    intro x y hxy; simp [toD] at hxy; omega
  unfold bv at h ⊢
  rw [List.map_map, List.map_map] at h
  have := (List.map_inj_right (fun a b hab => this a b hab)).1 h
  rw [this]
theorem sec_inj {l r : List Nat} (h : sec l = sec r) : l = r := by
  apply bv_inj
  unfold sec at h
  injection h with h
  simpa using congrArg Array.toList h

theorem keyed : Maps.Keyed Try.prog 3 := Maps.int_keyed Try.underlying3
theorem zero_sec (w : World) : (zeroValue 109).run Try.prog w = .ok (sec zeros) w := by kernel_rfl

theorem wf_nat {i : Nat} (h : i ≤ 9223372036854775807) : (Lit.int .i64 (i : Int)).wf = true := by
  simp [Lit.wf, IntKind.min, IntKind.max, IntKind.signed, IntKind.bits]; omega

theorem key_nat {i : Nat} (h : i ≤ 9223372036854775807) : keyOf Try.prog 3 (.int .i64 (i : Int)) = some (.int .i64 (i : Int)) := Maps.keyOf_int_mk Try.underlying3 (wf_nat h)

/-- the cache: the sectors that are in it, of n -/
def MapC (w : World) (b n : Nat) (C : Nat → Option (List Nat)) : Prop :=
  ∃ D : DataW Unit, w.ownsMap Try.prog 3 Rs b n D ∧ (∀ kl, Maps.has D kl = true → ∃ i : Nat, kl = .int .i64 (i : Int) ∧ i < n ∧ (C i).isSome = true) ∧
    (∀ i, C i = none → Maps.has D (.int .i64 ((i : Nat) : Int)) = false) ∧ ∀ i l, C i = some l → Sec l ∧ Maps.has D (.int .i64 (i : Int)) = true ∧ ∀ zd, D.atKey (.int .i64 (i : Int)) zd = dat l

theorem MapC.lt {w : World} {b n : Nat} {C : Nat → Option (List Nat)} (h : MapC w b n C) : b < w.heap.size := by obtain ⟨D, h, _⟩ := h; exact h.lt

theorem MapC.only {S : Nat → Prop} {w w' : World} {b n : Nat} {C : Nat → Option (List Nat)} (h : MapC w b n C) (ho : Only S w w') (hs : ¬ S b) : MapC w' b n C := by
  obtain ⟨D, hD, r⟩ := h
  have hlt := hD.lt
  obtain ⟨es, clock, hb, F, hs2, he⟩ := hD
  exact ⟨D, ⟨es, clock, (ho.block b hlt hs).trans hb, F, hs2, he⟩, r⟩

theorem MapC.made (w : World) (n : Nat) : MapC (w.alloc (.map #[] 0)) w.heap.size n (fun _ => none) :=
  ⟨.map [], (World.ownsMap_made w _ _ _).mono (Nat.zero_le _), fun kl h => by simp [Maps.has] at h, fun i _ => by simp [Maps.has], fun i l h => by cases h⟩

theorem MapC.sec {w : World} {b n : Nat} {C : Nat → Option (List Nat)} (h : MapC w b n C) (i : Nat) : Sec ((C i).getD zeros) := by
  obtain ⟨D, _, _, _, h4⟩ := h
  cases hc : C i with
  | none => exact sec_zeros
  | some l => exact (h4 i l hc).1

theorem MapC.look_ok {w : World} {b n : Nat} {C : Nat → Option (List Nat)} (h : MapC w b n C) (i : Nat) (hi : i ≤ 9223372036854775807) :
    (Instr.lookup 95 (.map (some b)) (.int .i64 (i : Int)) true).run Try.prog w = .ok (.tuple #[dskw.sec ((C i).getD zeros), .bool (C i).isSome]) w := by
  obtain ⟨D, h1, h2, h3, h4⟩ := h
  obtain ⟨v, ps, hrun, hR⟩ := h1.look_ok keyed Try.underlying95 (zero_sec w) (Rs_mk sec_zeros) (key_nat hi)
  rw [hrun]
  obtain ⟨l, hl, rfl, hz⟩ := Rs_inv hR
  cases hc : C i with
  | none =>
    have := h3 i hc
    rw [this]
    have e := Maps.atKey_of_not_has this (dat zeros)
    simp only [e] at hz
    rw [dat_inj hz]; rfl
  | some l' =>
    obtain ⟨_, g2, g3⟩ := h4 i l' hc
    rw [g2]
    simp only [g3] at hz
    rw [dat_inj hz]; rfl

theorem MapC.look {w : World} {b n : Nat} {C : Nat → Option (List Nat)} (h : MapC w b n C) (i : Nat) (hi : i ≤ 9223372036854775807) :
    (Instr.lookup 95 (.map (some b)) (.int .i64 (i : Int)) false).run Try.prog w = .ok (dskw.sec ((C i).getD zeros)) w := by
  obtain ⟨D, h1, h2, h3, h4⟩ := h
  obtain ⟨v, ps, hrun, hR⟩ := h1.lookup keyed Try.underlying95 (zero_sec w) (Rs_mk sec_zeros) (key_nat hi)
  rw [hrun]
  obtain ⟨l, hl, rfl, hz⟩ := Rs_inv hR
  cases hc : C i with
  | none =>
    have := h3 i hc
    have e := Maps.atKey_of_not_has this (dat zeros)
    simp only [e] at hz
    rw [dat_inj hz]; rfl
  | some l' =>
    obtain ⟨_, g2, g3⟩ := h4 i l' hc
    simp only [g3] at hz
    rw [dat_inj hz]; rfl

theorem nodup_le : ∀ (n : Nat) (l : List Nat), l.Nodup → (∀ x ∈ l, x < n) → l.length ≤ n := by
  intro n
  induction n with
  | zero => intro l _ h; cases l with
    | nil => simp
    | cons a l => have := h a (by simp); omega
  | succ n ih =>
    intro l hn h
    by_cases hm : n ∈ l
    · have h1 := ih (l.erase n) (hn.erase n) (fun x hx => by
        have h2 := (hn.mem_erase_iff).1 hx
        have := h x h2.2; omega)
      rw [List.length_erase_of_mem hm] at h1; omega
    · have := ih l hn (fun x hx => by have := h x hx; have : x ≠ n := fun e => hm (e ▸ hx); omega)
      omega

/-- the cache with one sector anew -/
def updC (C : Nat → Option (List Nat)) (i : Nat) (l : List Nat) : Nat → Option (List Nat) := fun j => if j = i then some l else C j

theorem lit_ne {i j : Nat} (h : i ≠ j) : (Lit.int .i64 (i : Int)) ≠ .int .i64 (j : Int) := fun e => h (by injection e with _ e; omega)

def litN : Lit → Nat
  | .int _ z => z.toNat
  | _ => 0

theorem size_bound {es : List (Lit × DataW Unit)} {n : Nat} (hp : es.Pairwise (fun p q => p.1 ≠ q.1)) (hk : ∀ p ∈ es, ∃ i : Nat, p.1 = .int .i64 (i : Int) ∧ i < n) : es.length ≤ n := by
  have h := nodup_le n (es.map fun p => litN p.1) ?_ ?_
  · simpa using h
  · unfold List.Nodup
    rw [List.pairwise_map]
    refine hp.imp_of_mem (fun {a c} ha hc hne e => hne ?_)
    obtain ⟨i, hi, _⟩ := hk a ha
    obtain ⟨j, hj, _⟩ := hk c hc
    rw [hi, hj] at e
    have : i = j := by simpa [litN] using e
    rw [hi, hj, this]
  · intro x hx
    rw [List.mem_map] at hx
    obtain ⟨p, hp', rfl⟩ := hx
    obtain ⟨i, hi, hlt⟩ := hk p hp'
    rw [hi]; simpa [litN] using hlt

/-- what the map's datum has to do with the cache -/
structure Like (D : DataW Unit) (n : Nat) (C : Nat → Option (List Nat)) : Prop where
  inn : ∀ kl, Maps.has D kl = true → ∃ i : Nat, kl = .int .i64 (i : Int) ∧ i < n ∧ (C i).isSome = true
  out : ∀ i, C i = none → Maps.has D (.int .i64 ((i : Nat) : Int)) = false
  val : ∀ i l, C i = some l → Sec l ∧ Maps.has D (.int .i64 (i : Int)) = true ∧ ∀ zd, D.atKey (.int .i64 (i : Int)) zd = dat l

theorem own_tight {w : World} {b n m : Nat} {D : DataW Unit} {C : Nat → Option (List Nat)} (h : w.ownsMap Try.prog 3 Rs b m D) (hL : Like D n C) : w.ownsMap Try.prog 3 Rs b n D := by
  obtain ⟨es0, he0, hp, hkl⟩ := h.entries keyed
  obtain ⟨es, clock, hb, F, hs, he⟩ := h
  refine ⟨es, clock, hb, F, ?_, he⟩
  have h1 : es0.length ≤ n := size_bound hp (fun p hp' => by
    have : Maps.has D p.1 = true := by
      rw [he0, Maps.has_eq, List.any_eq_true]
      exact ⟨p, hp', WideAt.sameKey_self (hkl p hp')⟩
    obtain ⟨i, hi, hlt, _⟩ := hL.inn p.1 this
    exact ⟨i, hi, hlt⟩)
  have h2 := he0.symm.trans he
  injection h2 with h2
  have h3 := congrArg List.length h2
  rw [length_sorted] at h3
  simp at h3
  omega

theorem MapC.store {w : World} {b n : Nat} {C : Nat → Option (List Nat)} (h : MapC w b n C) (i : Nat) (hi : i < n) (hn : n ≤ 140737488355328) {l : List Nat} (hl : Sec l) :
    ∃ w', (Instr.mapUpdate 95 (.map (some b)) (.int .i64 (i : Int)) (dskw.sec l)).run Try.prog w = .ok () w' ∧ MapC w' b n (updC C i l) ∧ Only (fun k => k = b) w w' := by
  obtain ⟨D, h1, h2, h3, h4⟩ := h
  have hk : keyOf Try.prog 3 (.int .i64 (i : Int)) = some (.int .i64 (i : Int)) := key_nat (by omega)
  obtain ⟨w', hrun, hown, hturn⟩ := h1.store keyed Try.underlying95 (by unfold maxLen; omega) hk (Rs_mk hl)
  have hM : Maps.IsMap D := h1.isMap
  have hik : WideAt.IsKeyLit (.int .i64 (i : Int)) := keyed.key hk
  have hL : Like (D.put (.int .i64 (i : Int)) (dat l)) n (updC C i l) := by
    refine ⟨?_, ?_, ?_⟩
    · intro kl hkl
      by_cases e : kl = .int .i64 (i : Int)
      · exact ⟨i, e, hi, by unfold updC; rw [if_pos rfl]; rfl⟩
      · rw [Maps.has_put_other e] at hkl
        obtain ⟨j, hj, hjn, hjs⟩ := h2 kl hkl
        have hne : j ≠ i := fun g => e (by rw [hj, g])
        exact ⟨j, hj, hjn, by unfold updC; rw [if_neg hne]; exact hjs⟩
    · intro j hj
      unfold updC at hj
      by_cases e : j = i
      · rw [if_pos e] at hj; cases hj
      · rw [if_neg e] at hj
        rw [Maps.has_put_other (lit_ne e)]; exact h3 j hj
    · intro j l' hj
      unfold updC at hj
      by_cases e : j = i
      · rw [if_pos e] at hj
        obtain rfl := Option.some.inj hj
        subst e
        exact ⟨hl, Maps.has_put_same hM hik _, fun zd => Maps.atKey_put_same hM hik _ _⟩
      · rw [if_neg e] at hj
        obtain ⟨g1, g2, g3⟩ := h4 j l' hj
        exact ⟨g1, by rw [Maps.has_put_other (lit_ne e)]; exact g2, fun zd => by rw [Maps.atKey_put_other (lit_ne e)]; exact g3 zd⟩
  exact ⟨w', hrun, ⟨_, own_tight hown hL, hL.inn, hL.out, hL.val⟩, (Only.of_grown hturn.grown).mono (fun k _ e => (Option.some.inj e).symm)⟩

theorem MapC.clear {w : World} {b n : Nat} {C : Nat → Option (List Nat)} (h : MapC w b n C) (ty : TypeId) :
    ∃ w', (Builtin.clear_ #[95] ty #[.map (some b)]).run Try.prog w = .ok (.tuple #[]) w' ∧ MapC w' b n (fun _ => none) ∧ Only (fun k => k = b) w w' := by
  obtain ⟨D, ⟨es, clock, hb, F, hs, he⟩, _⟩ := h
  refine ⟨setBlock w b (.map #[] clock), ?_, ?_, ?_⟩
  · simp [Builtin.clear_, run_underlying Try.underlying95, MapKept.run_getObj_map hb, MapKept.run_setObj_map _ hb, Result.andThen]
    rfl
  · refine ⟨.map [], ⟨#[], clock, heap_setBlock_same hb _, ⟨by simp, MapKept.stamped_empty clock, by simp⟩, Nat.zero_le _, rfl⟩, fun kl h => by simp [Maps.has] at h, fun i _ => by simp [Maps.has], fun i l h => by cases h⟩
  · refine ⟨rfl, rfl, rfl, by simp [setBlock], fun k hk hne => ?_⟩
    show (w.heap.setIfInBounds b _)[k]? = _
    rw [Array.getElem?_setIfInBounds_ne (fun e => hne e.symm)]

/-- a range over the cache, on the way -/
def RangeC (w : World) (b r n : Nat) (C : Nat → Option (List Nat)) (left : Nat → Bool) (cnt : Nat) : Prop :=
  ∃ (D : DataW Unit) (lf : Lit → Bool), w.ranges Try.prog 3 Rs b r n D lf cnt ∧ Like D n C ∧ (∀ i : Nat, lf (.int .i64 (i : Int)) = left i)

theorem RangeC.map {w : World} {b r n cnt : Nat} {C : Nat → Option (List Nat)} {left : Nat → Bool} (h : RangeC w b r n C left cnt) : MapC w b n C := by
  obtain ⟨D, lf, h1, h2, h3⟩ := h
  exact ⟨D, h1.owns, h2.inn, h2.out, h2.val⟩

theorem MapC.like {w : World} {b n : Nat} {C : Nat → Option (List Nat)} (h : MapC w b n C) : ∃ D, w.ownsMap Try.prog 3 Rs b n D ∧ Like D n C := by
  obtain ⟨D, h1, h2, h3, h4⟩ := h
  exact ⟨D, h1, h2, h3, h4⟩

theorem MapC.range {w : World} {b n : Nat} {C : Nat → Option (List Nat)} (h : MapC w b n C) :
    ∃ w' cnt, (Instr.range 95 (.map (some b))).run Try.prog w = .ok (.pointer (some ⟨w.heap.size, 0, none⟩)) w' ∧ RangeC w' b w.heap.size n C (fun i => (C i).isSome) cnt ∧ Only (fun _ => False) w w' ∧ w'.heap.size = w.heap.size + 1 := by
  obtain ⟨D, h1, hL⟩ := h.like
  obtain ⟨w', hrun, hr, hg, hs⟩ := h1.range keyed Try.underlying95
  refine ⟨w', _, hrun, ⟨D, _, hr, hL, fun i => ?_⟩, (Only.of_grown hg).mono (fun k _ e => by cases e), hs⟩
  show _ = (C i).isSome
  cases hc : C i with
  | none => exact hL.out i hc
  | some l => exact (hL.val i l hc).2.1

theorem RangeC.next {w : World} {b r n cnt : Nat} {C : Nat → Option (List Nat)} {left : Nat → Bool} (h : RangeC w b r n C left cnt) (ty : TypeId) :
    ((∀ i, left i = false) ∧ (Instr.next (.pointer (some ⟨r, 0, none⟩)) false ty).run Try.prog w = .ok (.tuple #[.bool false]) w) ∨
    ∃ (i : Nat) (l : List Nat) (w' : World) (cnt' : Nat), C i = some l ∧ Sec l ∧ i < n ∧ left i = true ∧ (Instr.next (.pointer (some ⟨r, 0, none⟩)) false ty).run Try.prog w = .ok (.tuple #[.bool true, .int .i64 (i : Int), dskw.sec l]) w' ∧
      RangeC w' b r n C (fun j => left j && !decide (j = i)) cnt' ∧ cnt' < cnt ∧ Only (fun k => k = r) w w' ∧ w'.heap.size = w.heap.size ∧ (Instr.entry (.pointer (some ⟨r, 0, none⟩))).run Try.prog w' = .ok (.tuple #[.int .i64 (i : Int), dskw.sec l]) w' := by
  obtain ⟨D, lf, hr, hL, hlf⟩ := h
  rcases hr.next keyed ty with ⟨h0, hall, hrun⟩ | ⟨key, v, kl, y, w', cnt', hkey, hleft, hR, hat, hrun, hr', hlt, hg, hsz, hent⟩
  · exact .inl ⟨fun i => by rw [← hlf]; exact hall _, hrun⟩
  · have hhas : Maps.has D kl = true := Maps.has_true_of_atKey hat
    obtain ⟨i, hi, hin, his⟩ := hL.inn kl hhas
    obtain ⟨z, hz, hkl, hwf⟩ := Maps.keyOf_int_inv Try.underlying3 hkey
    rw [hi] at hkl
    obtain rfl : (i : Int) = z := by injection hkl
    obtain ⟨l, hl⟩ := Option.isSome_iff_exists.1 his
    obtain ⟨l', hsl, rfl, hy⟩ := Rs_inv hR
    have hv := (hL.val i l hl).2.2 (dat zeros)
    rw [← hi, hat, hy] at hv
    have hll := dat_inj hv
    subst hz
    subst hll
    subst hi
    refine .inr ⟨i, l', w', cnt', hl, hsl, hin, by rw [← hlf]; exact hleft, hrun, ⟨D, _, hr', hL, fun j => ?_⟩, hlt, (Only.of_grown hg).mono (fun k _ e => (Option.some.inj e).symm), hsz, hent⟩
    show (lf (.int .i64 (j : Int)) && !(Lit.int .i64 (j : Int)).sameKey (.int .i64 (i : Int))) = (left j && !decide (j = i))
    rw [hlf]
    by_cases e : j = i
    · subst e
      rw [WideAt.sameKey_self (keyed.key hkey)]; simp
    · rw [Maps.sameKey_ne (lit_ne e)]; simp [e]
end Go.Proofs.Ytcbpgplmphgcgaa.dskw
