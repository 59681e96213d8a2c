/- A map of rows of 32 ints by accounts. -/
import Derived.Test.YtkbaafgaaiekpaaAccM
import Derived.Test.YtkbaafgaaiekpaaMemI
namespace Go.Proofs.Ytkbaafgaaiekpaa.accn
open Go.RowKit mem Go.WideShapes Go.ChangeMaps Go.WideMaps accm
set_option linter.unusedVariables false
set_option maxRecDepth 100000

structure Ac where
  k : Int
  n : Int
  g : Int
  deriving DecidableEq
def InA (a : Ac) : Prop := I64 a.k ∧ I64 a.n ∧ I64 a.g
def acc (a : Ac) : Value := accm.accV a.k a.n a.g
theorem acc_key {a : Ac} (h : InA a) : ∃ kl, keyOf Try.prog 55 (acc a) = some kl := key_acc h.1 h.2.1 h.2.2
theorem acc_inj {a b : Ac} (h : acc a = acc b) : a = b := by
  obtain ⟨h1, h2, h3⟩ := accV_inj h
  cases a; cases b; simp_all

/-- 32 ints -/
def Row (l : List Int) : Prop := l.length = 32 ∧ ∀ c ∈ l, I64 c
def noughts : List Int := List.replicate 32 0
theorem row_noughts : Row noughts := ⟨by simp [noughts], by intro c hc; simp [noughts] at hc; rw [hc]; unfold I64; omega⟩
def toD : Value → DataW Unit
  | .int k n => .lit (.int k n)
  | _ => .nil
def okC : Value → Bool
  | .int .i64 n => decide (-9223372036854775808 ≤ n) && decide (n ≤ 9223372036854775807)
  | _ => false
def Rs : Value → Option (DataW Unit × List MemPlace)
  | .agg cs => if cs.size = 32 ∧ cs.toList.all okC = true then some (.agg (cs.toList.map toD), []) else none
  | _ => none
def sec (l : List Int) : Value := .agg (iv l).toArray
def dat (l : List Int) : DataW Unit := .agg ((iv l).map toD)

theorem Rs_mk {l : List Int} (h : Row l) : Rs (sec l) = some (dat l, []) := by
  have h1 : (iv l).all okC = true := by
    rw [List.all_eq_true]
    intro v hv
    simp only [iv, List.mem_map] at hv
    obtain ⟨c, hc, rfl⟩ := hv
    have := h.2 c hc
    unfold I64 at this
    simp [okC]; omega
  have h2 : (iv l).toArray.size = 32 := by simp [iv, h.1]
  unfold Rs sec
  simp only
  rw [if_pos ⟨h2, by simpa using h1⟩]
  rfl
theorem okC_inv {v : Value} (h : okC v = true) : ∃ c : Int, I64 c ∧ v = .int .i64 c := by
  unfold okC at h
  split at h
  · rename_i n
    simp at h
    exact ⟨n, h, rfl⟩
  · cases h
theorem list_okC : ∀ (vs : List Value), vs.all okC = true → ∃ l : List Int, (∀ c ∈ l, I64 c) ∧ vs = iv l := by
  intro vs
  induction vs with
  | nil => intro _; exact ⟨[], by simp, rfl⟩
  | cons v vs ih =>
    intro h
    rw [List.all_cons, Bool.and_eq_true] at h
    obtain ⟨c, hc, rfl⟩ := okC_inv h.1
    obtain ⟨l, hl, rfl⟩ := ih h.2
    exact ⟨c :: l, by intro d hd; rcases List.mem_cons.1 hd with rfl | h2; exact hc; exact hl d h2, rfl⟩
theorem Rs_inv {v : Value} {z : DataW Unit × List MemPlace} (h : Rs v = some z) : ∃ l, Row l ∧ v = sec l ∧ z.1 = dat l := by
  unfold Rs at h
  split at h
  · rename_i cs
    split at h
    · rename_i hc
      obtain ⟨l, hl, he⟩ := list_okC cs.toList hc.2
      have hlen : l.length = 32 := by
        have := congrArg List.length he
        have h64 := hc.1
        simp [iv] at this; omega
      have hcs : cs = (iv l).toArray := by rw [← he]
      refine ⟨l, ⟨hlen, hl⟩, by unfold sec; rw [← hcs], ?_⟩
      have := (Option.some.inj h).symm
      rw [this]; unfold dat; rw [← he]
    · cases h
  · cases h
theorem dat_inj {l r : List Int} (h : dat l = dat r) : l = r := by
  unfold dat at h
  injection h with h
  have : ∀ x y : Int, toD (Value.int .i64 x) = toD (Value.int .i64 y) → x = y := by
    intro x y hxy; simp [toD] at hxy; exact hxy
  unfold iv at h
  rw [List.map_map, List.map_map] at h
  exact (List.map_inj_right (fun a b hab => this a b hab)).1 h
theorem zero_row (w : World) : (zeroValue 94).run Try.prog w = .ok (sec noughts) w := by kernel_rfl

/-- what the map's datum has to do with the rows -/
structure Like (D : DataW Unit) (C : Ac → Option (List Int)) : Prop where
  inn : ∀ kl, Maps.has D kl = true → ∃ a, InA a ∧ keyOf Try.prog 55 (acc a) = some kl ∧ (C a).isSome = true
  out : ∀ a kl, keyOf Try.prog 55 (acc a) = some kl → C a = none → Maps.has D kl = false
  val : ∀ a kl l, keyOf Try.prog 55 (acc a) = some kl → C a = some l → Row l ∧ Maps.has D kl = true ∧ ∀ zd, D.atKey kl zd = dat l
/-- block b is a map of at most n rows -/
def MapA (w : World) (b n : Nat) (C : Ac → Option (List Int)) : Prop := ∃ D : DataW Unit, w.ownsMap Try.prog 55 Rs b n D ∧ Like D C ∧ ∀ a l, C a = some l → Row l ∧ InA a

theorem MapA.lt {w : World} {b n : Nat} {C : Ac → Option (List Int)} (h : MapA w b n C) : b < w.heap.size := by obtain ⟨D, h, _⟩ := h; exact h.lt
theorem MapA.same {w w' : World} {b n : Nat} {C : Ac → Option (List Int)} (h : MapA w b n C) (e : w'.heap[b]? = w.heap[b]?) : MapA w' b n C := by
  obtain ⟨D, ⟨es, clock, hb, r⟩, h2⟩ := h
  exact ⟨D, ⟨es, clock, e.trans hb, r⟩, h2⟩
theorem MapA.only {S : Nat → Prop} {w w' : World} {b n : Nat} {C : Ac → Option (List Int)} (h : MapA w b n C) (ho : Only S w w') (hs : ¬ S b) : MapA w' b n C := h.same (ho.block b h.lt hs)
theorem MapA.mono {w : World} {b n n' : Nat} {C : Ac → Option (List Int)} (h : MapA w b n C) (hn : n ≤ n') : MapA w b n' C := by
  obtain ⟨D, h1, h2⟩ := h
  exact ⟨D, h1.mono hn, h2⟩
theorem MapA.made (w : World) : MapA (w.alloc (.map #[] 0)) w.heap.size 0 (fun _ => none) :=
  ⟨.map [], World.ownsMap_made w _ _ _, ⟨fun kl h => by simp [Maps.has] at h, fun a kl _ _ => by simp [Maps.has], fun a kl l _ h => by cases h⟩, fun a l h => by cases h⟩
theorem MapA.row {w : World} {b n : Nat} {C : Ac → Option (List Int)} (h : MapA w b n C) (a : Ac) : Row ((C a).getD noughts) := by
  obtain ⟨D, _, _, h3⟩ := h
  cases hc : C a with
  | none => exact row_noughts
  | some l => exact (h3 a l hc).1

theorem MapA.look {w : World} {b n : Nat} {C : Ac → Option (List Int)} (h : MapA w b n C) {a : Ac} (ha : InA a) :
    (Instr.lookup 75 (.map (some b)) (acc a) false).run Try.prog w = .ok (sec ((C a).getD noughts)) w := by
  obtain ⟨D, h1, h2, h3⟩ := h
  obtain ⟨kl, hkl⟩ := acc_key ha
  obtain ⟨v, ps, hrun, hR⟩ := h1.lookup keyed Try.underlying75 (zero_row w) (Rs_mk row_noughts) hkl
  rw [hrun]
  obtain ⟨l, hl, rfl, hz⟩ := Rs_inv hR
  cases hc : C a with
  | none =>
    have := h2.out a kl hkl hc
    have e := Maps.atKey_of_not_has this (dat noughts)
    simp only [e] at hz
    rw [dat_inj hz]; rfl
  | some l' =>
    obtain ⟨_, g2, g3⟩ := h2.val a kl l' hkl hc
    simp only [g3] at hz
    rw [dat_inj hz]; rfl
theorem look_none (w : World) {a : Ac} (ha : InA a) : (Instr.lookup 75 (.map none) (acc a) false).run Try.prog w = .ok (sec noughts) w := by
  obtain ⟨kl, hkl⟩ := acc_key ha
  have hf : (Instr.findKey 55 (acc a) []).run Try.prog w = .ok none w := by
    rcases law.find w hkl [] (by simp) with ⟨h, _⟩ | ⟨j, e, _, h, _⟩
    · exact h
    · simp at h
  simp [Instr.lookup, run_underlying Try.underlying75, law.check w true hkl, hf, Result.andThen]
  rfl

/-- one row's anew -/
def updA (C : Ac → Option (List Int)) (a : Ac) (l : List Int) : Ac → Option (List Int) := fun x => if x = a then some l else C x

set_option maxHeartbeats 1000000 in
theorem MapA.store {w : World} {b n : Nat} {C : Ac → Option (List Int)} (h : MapA w b n C) {a : Ac} (ha : InA a) (hn : n ≤ 140737488355327) {l : List Int} (hl : Row l) :
    ∃ w', (Instr.mapUpdate 75 (.map (some b)) (acc a) (sec l)).run Try.prog w = .ok () w' ∧ MapA w' b (n + 1) (updA C a l) ∧ Only (fun k => k = b) w w' := by
  obtain ⟨D, h1, h2, h3⟩ := h
  obtain ⟨kl, hkl⟩ := acc_key ha
  obtain ⟨w', hrun, hown, hturn⟩ := h1.store keyed Try.underlying75 (by unfold maxLen; omega) hkl (Rs_mk hl)
  have hM : Maps.IsMap D := h1.isMap
  have hik : WideAt.IsKeyLit kl := keyed.key hkl
  have hsame : ∀ {x : Ac} {kx : Lit}, keyOf Try.prog 55 (acc x) = some kx → kx = kl → x = a := by
    intro x kx h e
    subst e
    exact acc_inj (law.inj h hkl)
  refine ⟨w', hrun, ⟨_, hown, ⟨?_, ?_, ?_⟩, ?_⟩, (Only.of_grown hturn.grown).mono (fun k _ e => (Option.some.inj e).symm)⟩
  · intro kx hkx
    by_cases e : kx = kl
    · exact ⟨a, ha, by rw [e]; exact hkl, by unfold updA; rw [if_pos rfl]; rfl⟩
    · rw [Maps.has_put_other e] at hkx
      obtain ⟨x, hx, hxk, hxs⟩ := h2.inn kx hkx
      refine ⟨x, hx, hxk, ?_⟩
      unfold updA
      split
      · rfl
      · exact hxs
  · intro x kx hx hc
    unfold updA at hc
    by_cases e : x = a
    · rw [if_pos e] at hc; cases hc
    · rw [if_neg e] at hc
      rw [Maps.has_put_other (fun q => e (hsame hx q))]
      exact h2.out x kx hx hc
  · intro x kx l' hx hc
    unfold updA at hc
    by_cases e : x = a
    · rw [if_pos e] at hc
      obtain rfl := Option.some.inj hc
      subst e
      obtain rfl := Option.some.inj (hkl.symm.trans hx)
      exact ⟨hl, Maps.has_put_same hM hik _, fun zd => Maps.atKey_put_same hM hik _ _⟩
    · rw [if_neg e] at hc
      obtain ⟨g1, g2, g3⟩ := h2.val x kx l' hx hc
      have hne : kx ≠ kl := fun q => e (hsame hx q)
      exact ⟨g1, by rw [Maps.has_put_other hne]; exact g2, fun zd => by rw [Maps.atKey_put_other hne]; exact g3 zd⟩
  · intro x l' hc
    unfold updA at hc
    by_cases e : x = a
    · rw [if_pos e] at hc
      obtain rfl := Option.some.inj hc
      exact ⟨hl, e ▸ ha⟩
    · rw [if_neg e] at hc
      exact h3 x l' hc
end Go.Proofs.Ytkbaafgaaiekpaa.accn
