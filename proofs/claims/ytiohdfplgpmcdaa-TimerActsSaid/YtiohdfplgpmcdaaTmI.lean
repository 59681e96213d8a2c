/- Timers: what they keep; the law's example. -/
import Derived.Test.YtiohdfplgpmcdaaTmH
namespace Go.Proofs.Ytiohdfplgpmcdaa.tmw
open Go.RowKit mem rowz
set_option linter.unusedVariables false

def InT (x : Tm) : Prop := (1 ≤ x.i ∧ x.i ≤ 4611686018427387904) ∧ 0 ≤ x.a ∧ x.a ≤ 4611686018427387904
/-- what timers keep -/
def Good (l : List Tm) : Prop := l.Pairwise ltM ∧ (l.map Tm.i).Nodup ∧ ∀ x ∈ l, InT x
theorem Good.nil : Good [] := ⟨List.Pairwise.nil, List.nodup_nil, fun x hx => by cases hx⟩
theorem Good.sub {l m : List Tm} (h : Good l) (hs : m.Sublist l) : Good m := ⟨h.1.sublist hs, h.2.1.sublist (hs.map _), fun x hx => h.2.2 x (hs.subset hx)⟩
theorem Good.rem {l : List Tm} (h : Good l) (g : Int) : Good (remM g l) := h.sub (remM_sub g l)
theorem Good.inK {l : List Tm} (h : Good l) : ∀ x ∈ l, InK x.i := fun x hx => by have := h.2.2 x hx; unfold InT at this; unfold InK; omega
theorem insM_perm (x : Tm) : ∀ l : List Tm, (insM x l).Perm (x :: l)
  | [] => List.Perm.refl _
  | y :: r => by
    unfold insM
    split
    · exact ((insM_perm x r).cons y).trans (List.Perm.swap x y r)
    · exact List.Perm.refl _
theorem insM_len (x : Tm) (l : List Tm) : (insM x l).length = l.length + 1 := by rw [(insM_perm x l).length_eq]; rfl
theorem insM_mem (x y : Tm) (l : List Tm) : y ∈ insM x l ↔ y = x ∨ y ∈ l := by rw [(insM_perm x l).mem_iff]; simp
theorem remM_no (g : Int) : ∀ l : List Tm, (l.map Tm.i).Nodup → ∀ x ∈ remM g l, x.i ≠ g
  | [], _ => fun x hx => by cases hx
  | p :: r, h => by
    have h' : p.i ∉ r.map Tm.i ∧ (r.map Tm.i).Nodup := List.nodup_cons.1 h
    unfold remM
    split
    · rename_i e
      intro x hx e'
      exact h'.1 (List.mem_map.2 ⟨x, hx, by rw [e', e]⟩)
    · rename_i e
      intro x hx
      rcases List.mem_cons.1 hx with rfl | hx
      · exact e
      · exact remM_no g r h'.2 x hx
theorem remM_mem (g : Int) : ∀ l : List Tm, (l.map Tm.i).Nodup → ∀ x, x ∈ remM g l ↔ x ∈ l ∧ x.i ≠ g := fun l h x =>
  ⟨fun hx => ⟨(remM_sub g l).subset hx, remM_no g l h x hx⟩, fun ⟨hx, hne⟩ => by
    clear h
    induction l with
    | nil => exact hx
    | cons p r ih =>
      unfold remM
      split
      · rename_i e
        rcases List.mem_cons.1 hx with rfl | hx
        · exact absurd e hne
        · exact hx
      · rcases List.mem_cons.1 hx with rfl | hx
        · exact List.mem_cons_self
        · exact List.mem_cons_of_mem _ (ih ⟨hx, hne⟩ hx)⟩
theorem remM_none (g : Int) : ∀ l : List Tm, (∀ x ∈ l, x.i ≠ g) → remM g l = l
  | [], _ => rfl
  | p :: r, h => by
    unfold remM
    rw [if_neg (h p List.mem_cons_self), remM_none g r fun x hx => h x (List.mem_cons_of_mem _ hx)]
theorem insM_pw (x : Tm) : ∀ l : List Tm, l.Pairwise ltM → (∀ y ∈ l, y.i ≠ x.i) → (insM x l).Pairwise ltM
  | [], _, _ => by simp [insM]
  | y :: r, h, hn => by
    have h' := List.pairwise_cons.1 h
    unfold insM
    split
    · rename_i e
      refine List.pairwise_cons.2 ⟨fun z hz => ?_, insM_pw x r h'.2 fun z hz => hn z (List.mem_cons_of_mem _ hz)⟩
      rcases (insM_mem x z r).1 hz with rfl | hz
      · exact e
      · exact h'.1 z hz
    · rename_i e
      have hy := hn y List.mem_cons_self
      have e2 : ltM x y := by unfold ltM at *; omega
      refine List.pairwise_cons.2 ⟨fun z hz => ?_, h⟩
      rcases List.mem_cons.1 hz with rfl | hz
      · exact e2
      · exact ltM_trans e2 (h'.1 z hz)
theorem Good.ins {l : List Tm} (h : Good l) {x : Tm} (hx : InT x) (hn : ∀ y ∈ l, y.i ≠ x.i) : Good (insM x l) := by
  refine ⟨insM_pw x l h.1 hn, ?_, fun y hy => ?_⟩
  · refine ((insM_perm x l).map Tm.i).nodup_iff.2 (List.nodup_cons.2 ⟨fun hm => ?_, h.2.1⟩)
    obtain ⟨y, hy, e⟩ := List.mem_map.1 hm
    exact hn y hy e
  · rcases (insM_mem x y l).1 hy with rfl | hy
    · exact hx
    · exact h.2.2 y hy
/-- Set's list -/
def putM (x : Tm) (l : List Tm) : List Tm := insM x (remM x.i l)
theorem Good.put {l : List Tm} (h : Good l) {x : Tm} (hx : InT x) : Good (putM x l) := (h.rem x.i).ins hx (remM_no x.i l h.2.1)
theorem put_mem (x y : Tm) (l : List Tm) (h : (l.map Tm.i).Nodup) : y ∈ putM x l ↔ y = x ∨ (y ∈ l ∧ y.i ≠ x.i) := by
  unfold putM; rw [insM_mem, remM_mem _ _ h]
def dueM (now : Int) (l : List Tm) : List Tm := l.takeWhile fun x => decide (x.a < now)
def leftM (now : Int) (l : List Tm) : List Tm := l.dropWhile fun x => decide (x.a < now)
theorem Good.left {l : List Tm} (h : Good l) (now : Int) : Good (leftM now l) := h.sub (List.dropWhile_suffix _).sublist
theorem Good.due {l : List Tm} (h : Good l) (now : Int) : Good (dueM now l) := h.sub (List.takeWhile_prefix _).sublist
theorem due_left (now : Int) (l : List Tm) : dueM now l ++ leftM now l = l := List.takeWhile_append_dropWhile
/-- timers made since b -/
def TB (b : Nat) (w : World) (p : Nat) (l : List Tm) : Prop := ∃ v, TmAt w p v l ∧ Good l ∧ b ≤ p ∧ ∀ q, v.ownBlock = some q → b ≤ q
theorem TB.only {b : Nat} {w w' : World} {p : Nat} {l : List Tm} (h : TB b w p l) (ho : Only (fun _ => False) w w') : TB b w' p l := by
  obtain ⟨v, h1, h2⟩ := h
  exact ⟨v, h1.only ho (fun f => f) (fun _ _ f => f), h2⟩
theorem TB.good {b : Nat} {w : World} {p : Nat} {l : List Tm} (h : TB b w p l) : Good l := by obtain ⟨v, _, h2, _⟩ := h; exact h2
theorem TB.short {b : Nat} {w : World} {p : Nat} {l : List Tm} (h : TB b w p l) : l.length ≤ 2000 := by obtain ⟨v, h1, _⟩ := h; exact h1.2.2.2.2
theorem tnewB (b : Nat) (w : World) (hb : b ≤ w.heap.size) : Calls Try.prog 16 #[] w fun e w' => ∃ p, e = .returned (.pointer (some ⟨p, 0, none⟩)) ∧ TB b w' p [] ∧ Only (fun _ => False) w w' :=
  (tnew_any w).mono fun _ _ ⟨h1, h2, h3⟩ => ⟨_, h1, ⟨_, h2, Good.nil, hb, fun q e => by cases e⟩, h3⟩
def SetB (b p : Nat) (l : List Tm) (a g : Int) (w : World) (e : Ending) (w' : World) : Prop :=
  e = .returned (.int .i64 (if (remM g l).length < 1024 then 0 else 10)) ∧ TB b w' p (if (remM g l).length < 1024 then putM ⟨a, g⟩ l else remM g l) ∧ Only (fun q => b ≤ q) w w'
theorem tsetB (b p : Nat) (l : List Tm) (a g : Int) (w : World) (h : TB b w p l) (hb : b ≤ w.heap.size) (hx : InT ⟨a, g⟩) : Calls Try.prog 12 #[.pointer (some ⟨p, 0, none⟩), .int .i64 g, .int .i64 a] w (SetB b p l a g w) := by
  obtain ⟨v, h1, h2, h3, h4⟩ := h
  refine (tset_any p v l a g w h1 h2.1 hx.1 hx.2).mono ?_
  rintro e w' ⟨h5, h6⟩
  have hO : Only (fun q => b ≤ q) w w' := h6.mono fun q _ hq => by
    rcases hq with rfl | hq
    · exact h3
    · exact h4 q hq
  rcases h5 with ⟨c1, rfl, v', c2, c3⟩ | ⟨c1, rfl, v', c2, c3⟩
  · refine ⟨by rw [if_pos c1], ?_, hO⟩
    rw [if_pos c1]
    refine ⟨v', c2, h2.put hx, h3, fun q hq => ?_⟩
    rcases c3 q hq with e | e
    · exact h4 q e
    · omega
  · refine ⟨by rw [if_neg (by omega)], ?_, hO⟩
    rw [if_neg (by omega)]
    exact ⟨v', c2, h2.rem g, h3, fun q hq => h4 q (by rw [← c3]; exact hq)⟩
def DueB (b p : Nat) (l : List Tm) (now : Int) (w : World) (e : Ending) (w' : World) : Prop :=
  ∃ a c, e = .returned (.slice a ((dueM now l).map Tm.i).length c) ∧ ReadsI w' a ((dueM now l).map Tm.i).length ((dueM now l).map Tm.i) ∧ (∀ y, a = some y → w.heap.size ≤ y.block) ∧ TB b w' p (leftM now l) ∧ Only (fun q => b ≤ q) w w'
theorem tdueB (b p : Nat) (l : List Tm) (now : Int) (w : World) (h : TB b w p l) : Calls Try.prog 14 #[.pointer (some ⟨p, 0, none⟩), .int .i64 now] w (DueB b p l now w) := by
  obtain ⟨v, h1, h2, h3, h4⟩ := h
  refine (tdue_any p v l now w h1 h2.inK).mono ?_
  rintro e w' ⟨⟨a, c, rfl, h5, h6⟩, ⟨v', h7, h8⟩, h9⟩
  exact ⟨a, c, rfl, h5, h6, ⟨v', h7, h2.left now, h3, fun q hq => h4 q (by rw [← h8]; exact hq)⟩, h9.mono fun q _ hq => by
    rcases hq with rfl | hq
    · exact h3
    · exact h4 q hq⟩
theorem tlenB (b p : Nat) (l : List Tm) (w : World) (h : TB b w p l) : Calls Try.prog 15 #[.pointer (some ⟨p, 0, none⟩)] w fun e w' => e = .returned (.int .i64 l.length) ∧ Only (fun _ => False) w w' := by
  obtain ⟨v, h1, _⟩ := h
  exact len_any p v l w h1
set_option maxRecDepth 100000 in
set_option maxHeartbeats 4000000 in
theorem same_any (a b : Option Addr) (n c d : Nat) (l : List Int) (w : World) (h1 : ReadsI w a n l) (h2 : ReadsI w b n l) :
    Calls Try.prog 19 #[.slice a n c, .slice b n d] w fun e w' => e = .returned (.bool true) ∧ Only (fun _ => False) w w' := by
  have hm := h1.2.1
  unfold maxLen at hm
  have H1 := Lib.hid h1
  have H2 := Lib.hid h2
  clear h1 h2
  go_enter Try.func19, Try.ntmps19
  go_wp2_with fail
  go_loopw [5] (fun i wr => ∃ k : Nat, k ≤ n ∧ i = .int .i64 k ∧ Hid (Only (fun _ => False) w wr)) (fun i _ => n - (intOf i).toNat)
  case atStart => exact ⟨0, by omega, rfl, Lib.hid (Only.refl _ _)⟩
  case round =>
    obtain ⟨k, hk, rfl, HO⟩ := hrel
    by_cases h8 : k < n
    · obtain ⟨b1, off1, rfl, hc1⟩ := H1.out.2.2.2.resolve_left (by omega)
      obtain ⟨b2, off2, rfl, hc2⟩ := H2.out.2.2.2.resolve_left (by omega)
      have e1 := HO.out.cell' (hc1 k h8) (fun f => f)
      have e2 := HO.out.cell' (hc2 k h8) (fun f => f)
      clear hc1 hc2
      generalize l.getD k 0 = x at *
      go_wp2_with fail
      go_region
      all_goals
        go_wp2_with fail
        go_roundw
        case rel => exact ⟨k + 1, by omega, by go_num, Lib.hid HO.out.drew⟩
        case measure => simp [intOf]; omega
    · obtain rfl : k = n := by omega
      go_wp2_with fail
      go_ret
      exact ⟨rfl, HO.out⟩
theorem reads_two {w : World} {g : Nat} {x y : Int} (h0 : w.cell? ⟨g, 0, none⟩ = some (.int .i64 x)) (h1 : w.cell? ⟨g, 1, none⟩ = some (.int .i64 y)) (hx : InK x) (hy : InK y) : ReadsI w (some ⟨g, 0, none⟩) 2 [x, y] :=
  ⟨rfl, by unfold maxLen; omega, fun c hc => by simp at hc; unfold InK at *; omega, .inr ⟨g, 0, rfl, fun i hi => by
    have : i = 0 ∨ i = 1 := by omega
    rcases this with rfl | rfl
    · exact h0
    · exact h1⟩⟩
theorem reads_one {w : World} {g : Nat} {x : Int} (h0 : w.cell? ⟨g, 0, none⟩ = some (.int .i64 x)) (hx : InK x) : ReadsI w (some ⟨g, 0, none⟩) 1 [x] :=
  ⟨rfl, by unfold maxLen; omega, fun c hc => by simp at hc; unfold InK at *; omega, .inr ⟨g, 0, rfl, fun i hi => by
    obtain rfl : i = 0 := by omega
    exact h0⟩⟩
set_option maxRecDepth 100000 in
set_option maxHeartbeats 4000000 in
theorem timers_any (w : World) : Calls Try.prog 11 #[] w fun e w' => e = .returned (.bool true) ∧ Only (fun _ => False) w w' := by
  go_enter Try.func11, Try.ntmps11
  go_wp2_with fail
  refine (tnewB w.heap.size w (Nat.le_refl _)).mono ?_
  rintro _ w1 ⟨p, rfl, ht, ho⟩
  have HT1 := Lib.hid ht
  have HO1 := Lib.hid ho
  have hs1 := ho.size
  clear ht ho
  go_wp2_with fail
  refine (tsetB w.heap.size p [] 5 7 w1 HT1.out hs1 (by unfold InT; decide)).mono ?_
  rintro _ w2 ⟨rfl, ht, ho⟩
  have HT2 : Hid (TB w.heap.size w2 p [⟨5, 7⟩]) := Lib.hid ht
  have HO2 := Lib.hid (HO1.out.then ho (fun q hq e => by omega))
  have hs2 := HO2.out.size
  clear ht ho
  have e1 : (if (remM 7 ([] : List Tm)).length < 1024 then (0 : Int) else 10) = 0 := by decide
  rw [e1]
  go_wp2_with fail
  refine (tsetB w.heap.size p _ 5 3 w2 HT2.out hs2 (by unfold InT; decide)).mono ?_
  rintro _ w3 ⟨rfl, ht, ho⟩
  have HT3 : Hid (TB w.heap.size w3 p [⟨5, 3⟩, ⟨5, 7⟩]) := Lib.hid ht
  have HO3 := Lib.hid (HO2.out.then ho (fun q hq e => by omega))
  have hs3 := HO3.out.size
  clear ht ho
  have e2 : (if (remM 3 [(⟨5, 7⟩ : Tm)]).length < 1024 then (0 : Int) else 10) = 0 := by decide
  rw [e2]
  go_wp2_with fail
  refine (tsetB w.heap.size p _ 9 1 w3 HT3.out hs3 (by unfold InT; decide)).mono ?_
  rintro _ w4 ⟨rfl, ht, ho⟩
  have HT4 : Hid (TB w.heap.size w4 p [⟨5, 3⟩, ⟨5, 7⟩, ⟨9, 1⟩]) := Lib.hid ht
  have HO4 := Lib.hid (HO3.out.then ho (fun q hq e => by omega))
  have hs4 := HO4.out.size
  clear ht ho
  have e3 : (if (remM 1 [(⟨5, 3⟩ : Tm), ⟨5, 7⟩]).length < 1024 then (0 : Int) else 10) = 0 := by decide
  rw [e3]
  go_wp2_with fail
  refine (tdueB w.heap.size p _ 6 w4 HT4.out).mono ?_
  rintro _ w5 ⟨a5, c5, rfl, hr, ha5, ht, ho⟩
  have HT5 : Hid (TB w.heap.size w5 p [⟨9, 1⟩]) := Lib.hid ht
  have HR5 : Hid (ReadsI w5 a5 2 [3, 7]) := Lib.hid hr
  have HO5 := Lib.hid (HO4.out.then ho (fun q hq e => by omega))
  have hs5 := HO5.out.size
  clear ht ho hr ha5
  have e4 : ((dueM 6 [(⟨5, 3⟩ : Tm), ⟨5, 7⟩, ⟨9, 1⟩]).map Tm.i).length = 2 := by decide
  rw [e4]
  clear e1 e2 e3 e4 HT1 HT2 HT3 HT4 HO1 HO2 HO3 HO4 hs1 hs2 hs3 hs4
  have HL5 : Hid (Only (fun _ => False) w5 (w5.alloc (.cells #[.int .i64 3, .int .i64 7] 3))) := Lib.hid ((Only.refl _ _).alloc _)
  have HLR : Hid (ReadsI (w5.alloc (.cells #[.int .i64 3, .int .i64 7] 3)) (some ⟨w5.heap.size, 0, none⟩) 2 [3, 7]) := Lib.hid (reads_two (alloc_newM _ _ _ _ _ _ rfl rfl) (alloc_newM _ _ _ _ _ _ rfl rfl) (by unfold InK; decide) (by unfold InK; decide))
  go_wp2_with fail
  generalize w5.alloc (.cells #[.int .i64 3, .int .i64 7] 3) = w6 at *
  refine (same_any _ _ _ _ _ [3, 7] w6 (HR5.out.only HL5.out (fun _ _ f => f)) HLR.out).mono ?_
  rintro _ w7 ⟨rfl, ho⟩
  have HO7 := Lib.hid (HO5.out.trans (HL5.out.trans ho))
  have HT7 := Lib.hid ((HT5.out.only HL5.out).only ho)
  have hs7 := HO7.out.size
  clear ho HO5 HT5 HL5 HLR HR5 hs5
  go_wp2_with fail
  refine (tdueB w.heap.size p _ 9 w7 HT7.out).mono ?_
  rintro _ w8 ⟨a8, c8, rfl, hr, ha8, ht, ho⟩
  have HT8 : Hid (TB w.heap.size w8 p [⟨9, 1⟩]) := Lib.hid ht
  have HO8 := Lib.hid (HO7.out.then ho (fun q hq e => by omega))
  have hs8 := HO8.out.size
  clear ht ho hr ha8 HT7 HO7 hs7
  have e5 : ((dueM 9 [(⟨9, 1⟩ : Tm)]).map Tm.i).length = 0 := by decide
  rw [e5]
  clear e5
  go_wp2_with fail
  refine (tdueB w.heap.size p _ 10 w8 HT8.out).mono ?_
  rintro _ w9 ⟨a9, c9, rfl, hr, ha9, ht, ho⟩
  have HR9 : Hid (ReadsI w9 a9 1 [1]) := Lib.hid hr
  have HO9 := Lib.hid (HO8.out.then ho (fun q hq e => by omega))
  clear ht ho hr ha9 HT8 HO8 hs8
  have e6 : ((dueM 10 [(⟨9, 1⟩ : Tm)]).map Tm.i).length = 1 := by decide
  rw [e6]
  clear e6
  have HL9 : Hid (Only (fun _ => False) w9 (w9.alloc (.cells #[.int .i64 1] 3))) := Lib.hid ((Only.refl _ _).alloc _)
  have HLR : Hid (ReadsI (w9.alloc (.cells #[.int .i64 1] 3)) (some ⟨w9.heap.size, 0, none⟩) 1 [1]) := Lib.hid (reads_one (alloc_newM _ _ _ _ _ _ rfl rfl) (by unfold InK; decide))
  go_wp2_with fail
  generalize w9.alloc (.cells #[.int .i64 1] 3) = wa at *
  refine (same_any _ _ _ _ _ [1] wa (HR9.out.only HL9.out (fun _ _ f => f)) HLR.out).mono ?_
  rintro _ wb ⟨rfl, ho⟩
  have HOb := Lib.hid (HO9.out.trans (HL9.out.trans ho))
  clear ho HO9 HL9 HLR HR9
  go_wp2_with fail
  go_ret
  exact ⟨rfl, HOb.out⟩
end Go.Proofs.Ytiohdfplgpmcdaa.tmw
