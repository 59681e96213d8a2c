/- DiskLasts: its walk. -/
import Derived.Test.YtlmkkpfhapkflaaDskFm
import Derived.Test.YtlmkkpfhapkflaaDskG
import Derived.Deep.RegionHeld3
import Derived.Deep.DrawnRows
import Derived.WalkSpells
namespace Go.Proofs.Ytlmkkpfhapkflaa.dskw
open Go.RowKit mem Go.Maps
set_option linter.unusedVariables false

/-- eight cells of an array -/
def Arr8 (w : World) (g : Nat) (t : TypeId) (f : Nat → Value) : Prop := ∃ cur : Array Value, w.heap[g]? = some (.cells cur t (0, 0)) ∧ cur.size = 8 ∧ ∀ j, j < 8 → cur[j]? = some (f j)
theorem Arr8.cell {w : World} {g : Nat} {t : TypeId} {f : Nat → Value} (h : Arr8 w g t f) {j : Nat} (hj : j < 8) : w.cell? ⟨g, j, none⟩ = some (f j) ∧ w.frozen? ⟨g, j, none⟩ = false := by
  obtain ⟨cur, h1, h2, h3⟩ := h
  exact ⟨by rw [Go.Joins.cell_of_block h1, h3 j hj], by simp [World.frozen?, h1]⟩
theorem Arr8.set {w : World} {g : Nat} {t : TypeId} {f : Nat → Value} (h : Arr8 w g t f) {i : Nat} (hi : i < 8) (v : Value) : Arr8 (w.setCell ⟨g, i, none⟩ v) g t (fun j => if j = i then v else f j) := by
  obtain ⟨cur, h1, h2, h3⟩ := h
  refine ⟨_, heap_set _ h1, by simp [h2], fun j hj => ?_⟩
  by_cases e : j = i
  · subst e
    rw [Array.getElem?_setIfInBounds_self_of_lt (by omega)]
    show some v = some (if j = j then v else f j)
    rw [if_pos rfl]
  · rw [Array.getElem?_setIfInBounds_ne (fun e2 => e e2.symm), h3 j hj]
    show some (f j) = some (if j = i then v else f j)
    rw [if_neg e]
theorem Arr8.lt {w : World} {g : Nat} {t : TypeId} {f : Nat → Value} (h : Arr8 w g t f) : g < w.heap.size := by
  obtain ⟨cur, h1, _⟩ := h
  exact (Array.getElem?_eq_some_iff.1 h1).1
theorem Arr8.only {S : Nat → Prop} {w w' : World} {g : Nat} {t : TypeId} {f : Nat → Value} (h : Arr8 w g t f) (ho : Only S w w') (hs : ¬ S g) : Arr8 w' g t f := by
  have hlt := h.lt
  obtain ⟨cur, h1, r⟩ := h
  exact ⟨cur, (ho.block g hlt hs).trans h1, r⟩
theorem Arr8.congr {w : World} {g : Nat} {t : TypeId} {f f' : Nat → Value} (h : Arr8 w g t f) (e : ∀ j, j < 8 → f j = f' j) : Arr8 w g t f' := by
  obtain ⟨cur, h1, h2, h3⟩ := h
  exact ⟨cur, h1, h2, fun j hj => by rw [h3 j hj, e j hj]⟩

theorem Arr8.range {w : World} {g : Nat} {t : TypeId} {f : Nat → Value} (h : Arr8 w g t f) : w.rangeAt g 0 ((List.range 8).map f) := by
  intro j v hv
  have hj : j < 8 := by
    rcases Nat.lt_or_ge j 8 with a | a
    · exact a
    · rw [List.getElem?_eq_none (by simp; omega)] at hv; cases hv
  rw [List.getElem?_map, List.getElem?_range hj] at hv
  rw [Nat.zero_add, (h.cell hj).1]; exact hv
theorem heap_cells {g : Nat} {t : TypeId} : ∀ (vs : List Value) (o : Nat) (w : World) (cur : Array Value), w.heap[g]? = some (.cells cur t (0, 0)) → ∃ cur', (w.setCells g o vs).heap[g]? = some (.cells cur' t (0, 0)) ∧ cur'.size = cur.size := by
  intro vs
  induction vs with
  | nil => intro o w cur h; exact ⟨cur, h, rfl⟩
  | cons v r ih =>
    intro o w cur h
    rw [World.setCells]
    obtain ⟨c2, h2, h3⟩ := ih (o + 1) _ _ (heap_set (i := o) v h)
    exact ⟨c2, h2, by rw [h3]; simp⟩
theorem Arr8.there {w : World} {g : Nat} {t : TypeId} {f : Nat → Value} (h : Arr8 w g t f) : w.there g 0 8 := fun j hj => by
  rw [Nat.zero_add]
  exact ⟨by rw [(h.cell hj).1]; rfl, (h.cell hj).2⟩
theorem Arr8.setAll {w : World} {g : Nat} {t : TypeId} {f f' : Nat → Value} (h : Arr8 w g t f) : Arr8 (w.setCells g 0 ((List.range 8).map f')) g t f' := by
  have hr := World.rangeAt_setCells_same w g 0 ((List.range 8).map f') (by rw [List.length_map, List.length_range]; exact h.there)
  obtain ⟨cur, h1, h2, h3⟩ := h
  obtain ⟨c2, g1, g2⟩ := heap_cells ((List.range 8).map f') 0 w cur h1
  refine ⟨c2, g1, by omega, fun j hj => ?_⟩
  have := hr j (f' j) (by rw [List.getElem?_map, List.getElem?_range hj]; rfl)
  rw [Go.Joins.cell_of_block g1, Nat.zero_add] at this
  exact this
theorem info_8 : (Try.prog.info? 52).map (·.size) = some 8 := by kernel_rfl

theorem bloop_eq (bs : ByteArray) : ∀ (n i : Nat) (r : List UInt8), bs.size - i = n → ByteArray.toList.loop bs i r = r.reverse ++ bs.data.toList.drop i := by
  intro n
  induction n with
  | zero =>
    intro i r h
    rw [ByteArray.toList.loop]
    rw [if_neg (by omega), List.drop_eq_nil_of_le (by show bs.data.size ≤ i; have : bs.size = bs.data.size := rfl; omega), List.append_nil]
  | succ n ih =>
    intro i r h
    rw [ByteArray.toList.loop]
    have hi : i < bs.data.toList.length := by show i < bs.data.size; have : bs.size = bs.data.size := rfl; omega
    rw [if_pos (by omega), ih (i + 1) _ (by omega), List.reverse_cons, List.append_assoc, List.drop_eq_getElem_cons hi]
    have : bs.get! i = bs.data.toList[i] := by
      show bs.data[i]! = _
      rw [getElem!_pos bs.data i (by simpa using hi)]
      simp
    rw [this]; rfl
theorem bytes_ext {a b : ByteArray} (h : a.toList = b.toList) : a = b := by
  unfold ByteArray.toList at h
  rw [bloop_eq a _ 0 [] rfl, bloop_eq b _ 0 [] rfl] at h
  exact ByteArray.ext (Array.toList_inj.1 (by simpa using h))

theorem wr_one {C : Nat → Option (List Nat)} {f : Nat} {lb : List Nat} (h : lb.length = 64) : wrC C f lb 1 = updC C f lb := by
  rw [wrC_succ, wrC_zero, Nat.add_zero]
  congr 1
  unfold bsec
  rw [Nat.zero_mul, List.drop_zero, List.take_of_length_le (by omega)]
/-- one sector is written -/
theorem write_one (p bl bm : Nat) (L : Nat → List Nat) (C : Nat → Option (List Nat)) (f : Nat) (hf : f < 8) (g cap : Nat) (y : Nat) (w : World) (h : DskAt w p bl bm 8 L C 0 false) (hb : OwnB w (.slice (some ⟨g, 0, none⟩) 64 cap) (List.replicate 64 y)) (hg : ¬ Dbl p bl bm g) :
    Calls Try.prog 21 #[.pointer (some ⟨p, 0, none⟩), .int .i64 (f : Int), .slice (some ⟨g, 0, none⟩) 64 cap] w fun e w' => e = .returned (.int .i64 0) ∧ DAft p bl bm 8 w w' L (updC C f (List.replicate 64 y)) 0 false := by
  have hl : (List.replicate 64 y).length = 64 := List.length_replicate
  obtain ⟨g', cap', hv, _, hc, hm⟩ := hb.form (by intro e; rw [e] at hl; cases hl)
  injection hv with h1 h2 h3
  have hw := write_yes p bl bm 8 L C 0 f 1 (by omega) (some ⟨g, 0, none⟩) cap (List.replicate 64 y) w h ⟨hb.reads hl.symm, by omega, by omega, fun e => by cases e⟩ (fun x hx hD => by injection hx with hx; subst hx; exact hg hD)
  have e1 : wrK 0 1 = 1 := rfl
  have e2 : wrOff 0 1 = false := rfl
  have e3 : wrE 0 1 = 0 := rfl
  have e4 : cutJ 0 1 = 0 := rfl
  rw [e1, e2, e3, e4, wr_one hl] at hw
  exact hw

/-- the cache after k first writes -/
def fC (lf : List Nat) (k : Nat) : Nat → Option (List Nat) := fun i => if i < k then some (List.replicate 64 (lf.getD i 0)) else none
theorem fC_step (lf : List Nat) (k : Nat) : updC (fC lf k) k (List.replicate 64 (lf.getD k 0)) = fC lf (k + 1) := by
  funext i; unfold updC fC
  by_cases e : i = k
  · subst e; rw [if_pos rfl, if_pos (by omega)]
  · rw [if_neg e]
    by_cases h : i < k
    · rw [if_pos h, if_pos (by omega)]
    · rw [if_neg h, if_neg (by omega)]
def fv (lf : List Nat) (k : Nat) : Nat → Nat := fun i => if i < k then lf.getD i 0 else 0

/-- the cache behind some writes -/
def gC (tv : Nat → Bool) (nv : Nat → Nat) : Nat → Option (List Nat) := fun i => if i < 8 ∧ tv i = true then some (List.replicate 64 (nv i)) else none
theorem gC_start (nv : Nat → Nat) : gC (fun _ => false) nv = fun _ => none := by
  funext i; unfold gC; rw [if_neg (by simp)]
theorem gC_step (tv : Nat → Bool) (nv : Nat → Nat) {A : Nat} (hA : A < 8) (y : Nat) : updC (gC tv nv) A (List.replicate 64 y) = gC (fun j => if j = A then true else tv j) (fun j => if j = A then y else nv j) := by
  funext i; unfold updC gC
  by_cases e : i = A
  · subst e; simp [hA]
  · simp [e]

theorem fC_cur (lf : List Nat) (k : Nat) : cur (fun _ => zeros) (fC lf k) = fun i => List.replicate 64 (fv lf k i) := by
  funext i; unfold cur fC fv
  by_cases h : i < k
  · rw [if_pos h, if_pos h]; rfl
  · rw [if_neg h, if_neg h]; rfl

set_option maxRecDepth 100000 in
set_option maxHeartbeats 8000000 in
attribute [local go_sem ↓] Go.wp_at_zero Go.wp_at_succ in
theorem lasts_any (a1 : Option Addr) (n1 c1 : Nat) (lf : List Nat) (a2 : Option Addr) (n2 c2 : Nat) (a3 : Option Addr) (n3 c3 : Nat) (kl : List Bool) (w : World) (hf : Bytes w a1 n1 c1 lf) (hj : JobsW w a2 n2) (hk : Bools w a3 n3 kl) :
    Calls Try.prog 4 #[.slice a1 n1 c1, .slice a2 n2 c2, .slice a3 n3 c3] w fun e w' => e = .returned (.bool true) ∧ Only (fun _ => False) w w' := by
  have HF := Lib.hid hf
  have HJ := Lib.hid hj
  have HK := Lib.hid hk
  have HL : Hid (0 < n3 → ∀ x, a3 = some x → x.block < w.heap.size) := Lib.hid (fun h0 x hx => by
    rcases hk.2.2 with e | ⟨b, o, ha, hc⟩
    · omega
    · rw [ha] at hx; injection hx with hx; subst hx; exact World.block_lt_of_cell? w _ (hc 0 h0))
  clear hf hj hk
  have HNW := Lib.hid (new_any 8 (by omega) (by omega) w)
  go_enter Try.func4, Try.ntmps4
  go_wp2_with fail
  refine (HNW.out).mono ?_
  rintro e1 w1 ⟨p, bl, bm, rfl, hd1, ho1, hp, hbl, hbm⟩
  have HD1 := Lib.hid hd1
  have HO1 := Lib.hid ho1
  clear hd1 ho1 HNW
  go_wp2_with (go_at_call 17; refine (disks_any _).mono ?_; rintro _ w2 ⟨rfl, ho2⟩; have HO2 := Lib.hid ho2; clear ho2)
  have HO12 := Lib.hid (HO1.out.then HO2.out (fun _ _ f => f))
  have hlt := HD1.out.lt
  have hs12 := HO2.out.size
  have HD3 : Hid (DskAt ((w2.alloc (.cells #[.int .u8 0, .int .u8 0, .int .u8 0, .int .u8 0, .int .u8 0, .int .u8 0, .int .u8 0, .int .u8 0] 52)).alloc (.cells #[.int .u8 0, .int .u8 0, .int .u8 0, .int .u8 0, .int .u8 0, .int .u8 0, .int .u8 0, .int .u8 0] 52)) p bl bm 8 (fun _ => zeros) (fun _ => none) 0 false) := Lib.hid ((HD1.out.only HO2.out (fun f => f) (fun f => f) (fun f => f)).only (S := fun _ => False) (((Only.refl _ w2).alloc _).alloc _) (fun f => f) (fun f => f) (fun f => f))
  have HO3 : Hid (Only (fun _ => False) w2 ((w2.alloc (.cells #[.int .u8 0, .int .u8 0, .int .u8 0, .int .u8 0, .int .u8 0, .int .u8 0, .int .u8 0, .int .u8 0] 52)).alloc (.cells #[.int .u8 0, .int .u8 0, .int .u8 0, .int .u8 0, .int .u8 0, .int .u8 0, .int .u8 0, .int .u8 0] 52))) := Lib.hid (((Only.refl _ w2).alloc _).alloc _)
  have HA : Hid (Arr8 ((w2.alloc (.cells #[.int .u8 0, .int .u8 0, .int .u8 0, .int .u8 0, .int .u8 0, .int .u8 0, .int .u8 0, .int .u8 0] 52)).alloc (.cells #[.int .u8 0, .int .u8 0, .int .u8 0, .int .u8 0, .int .u8 0, .int .u8 0, .int .u8 0, .int .u8 0] 52)) w2.heap.size 52 (fun _ => .int .u8 0) ∧ Arr8 ((w2.alloc (.cells #[.int .u8 0, .int .u8 0, .int .u8 0, .int .u8 0, .int .u8 0, .int .u8 0, .int .u8 0, .int .u8 0] 52)).alloc (.cells #[.int .u8 0, .int .u8 0, .int .u8 0, .int .u8 0, .int .u8 0, .int .u8 0, .int .u8 0, .int .u8 0] 52)) (w2.heap.size + 1) 52 (fun _ => .int .u8 0)) := Lib.hid (by
    have h8 : ∀ j, j < 8 → (#[.int .u8 0, .int .u8 0, .int .u8 0, .int .u8 0, .int .u8 0, .int .u8 0, .int .u8 0, .int .u8 0] : Array Value)[j]? = some (.int .u8 0) := by
      intro j hj
      rcases (by omega : j = 0 ∨ j = 1 ∨ j = 2 ∨ j = 3 ∨ j = 4 ∨ j = 5 ∨ j = 6 ∨ j = 7) with rfl | rfl | rfl | rfl | rfl | rfl | rfl | rfl <;> rfl
    refine ⟨⟨#[.int .u8 0, .int .u8 0, .int .u8 0, .int .u8 0, .int .u8 0, .int .u8 0, .int .u8 0, .int .u8 0], ?_, rfl, h8⟩, ⟨#[.int .u8 0, .int .u8 0, .int .u8 0, .int .u8 0, .int .u8 0, .int .u8 0, .int .u8 0, .int .u8 0], ?_, rfl, h8⟩⟩
    · rw [heap_alloc, if_neg (by rw [size_alloc]; omega), heap_alloc, if_pos rfl]
    · rw [heap_alloc, if_pos (by rw [size_alloc])])
  generalize ((w2.alloc (.cells #[.int .u8 0, .int .u8 0, .int .u8 0, .int .u8 0, .int .u8 0, .int .u8 0, .int .u8 0, .int .u8 0] 52)).alloc (.cells #[.int .u8 0, .int .u8 0, .int .u8 0, .int .u8 0, .int .u8 0, .int .u8 0, .int .u8 0, .int .u8 0] 52)) = w3 at *
  have HFB := Lib.hid ((HF.out.only (HO12.out.then HO3.out (fun _ _ f => f)) (fun _ _ f => f)))
  have hww : w.heap.size ≤ w2.heap.size := HO12.out.size
  have HFVB : Hid (∀ (k j : Nat), fv lf k j < 256) := Lib.hid (fun k j => by
    unfold fv
    by_cases h : j < k
    · rw [if_pos h, List.getD_eq_getElem?_getD]
      by_cases h2 : j < lf.length
      · rw [List.getElem?_eq_getElem h2]; exact HF.out.1.2.2.1 _ (List.getElem_mem h2)
      · rw [List.getElem?_eq_none (by omega)]; show 0 < 256; omega
    · rw [if_neg h]; omega)
  have hlf := HF.out.1.1
  have hlm := HF.out.1.2.1
  unfold maxLen at hlm
  go_loopw [11] (fun i wr => ∃ k : Nat, k ≤ 8 ∧ k ≤ n1 ∧ i = .int .i64 (k : Int) ∧ Hid (DskAt wr p bl bm 8 (fun _ => zeros) (fC lf k) 0 false) ∧ Hid (Only (fun _ => False) w wr) ∧ Hid (Arr8 wr w2.heap.size 52 (fun j => .int .u8 (fv lf k j : Nat)) ∧ Arr8 wr (w2.heap.size + 1) 52 (fun _ => .int .u8 0))) (fun i _ => 8 - (intOf i).toNat)
  case atStart => exact ⟨0, by omega, by omega, rfl, Lib.hid HD3.out, Lib.hid (HO12.out.then HO3.out (fun _ _ f => f)), HA⟩
  case round =>
    clear HD3 HA HO3
    obtain ⟨k, hk8, hkn, rfl, HDk, HOk, HAk⟩ := hrel
    by_cases hkk : k < 8 ∧ k < n1
    · obtain ⟨h8, hn⟩ := hkk
      obtain ⟨b, o, rfl, hcell⟩ := HF.out.1.2.2.2.resolve_left (by omega)
      have hck := HOk.out.cell' (hcell k hn) (fun f => f)
      have hbw := World.block_lt_of_cell? w _ (hcell k hn)
      have hyl : lf.getD k 0 < 256 := HF.out.1.2.2.1 _ (by rw [List.getD_eq_getElem?_getD, List.getElem?_eq_getElem (by omega)]; exact List.getElem_mem _)
      have HCS := Lib.hid (fC_step lf k)
      have HFV : Hid (∀ j, (if j = k then Value.int .u8 (lf.getD k 0 : Nat) else .int .u8 (fv lf k j : Nat)) = .int .u8 (fv lf (k + 1) j : Nat)) := Lib.hid (fun j => by
        unfold fv
        by_cases e : j = k
        · subst e; rw [if_pos rfl, if_pos (by omega)]
        · rw [if_neg e]
          by_cases h : j < k
          · rw [if_pos h, if_pos (by omega)]
          · rw [if_neg h, if_neg (by omega)])
      generalize lf.getD k 0 = y at *
      have HSC := Lib.hid (sector_any y hyl wr)
      clear hcell
      go_wp2_with fail
      refine (HSC.out).mono ?_
      rintro e4 w4 ⟨g4, cap4, rfl, hb4, ho4, hg4⟩
      have hrs := HAk.out.2.lt
      have hgd : ¬ Dbl p bl bm g4 := by rintro (e | e | e) <;> omega
      have HW := Lib.hid (write_one p bl bm _ _ k h8 g4 cap4 y w4 (HDk.out.only ho4 (fun f => f) (fun f => f) (fun f => f)) (by rw [List.length_replicate] at hb4; exact hb4) hgd)
      have HO4 := Lib.hid (HOk.out.then ho4 (fun _ _ f => f))
      have HA4 := Lib.hid (And.intro (HAk.out.1.only ho4 (fun f => f)) (HAk.out.2.only ho4 (fun f => f)))
      have hck4 := ho4.cell' hck (fun f => f)
      rw [List.length_replicate]
      clear hb4 ho4 HSC hck
      go_wp2_with fail
      refine (HW.out).mono ?_
      rintro e5 w5 ⟨rfl, hd5, ho5⟩
      rw [HCS.out] at hd5
      have HD5 := Lib.hid hd5
      have HO5 := Lib.hid (HO4.out.then ho5 (fun k hk e => by rcases e with e | e | e <;> omega))
      have HA5 := Lib.hid (And.intro (HA4.out.1.only ho5 (by rintro (e | e | e) <;> omega)) (HA4.out.2.only ho5 (by rintro (e | e | e) <;> omega)))
      have hck5 := ho5.cell' hck4 (show ¬ Dbl p bl bm b by rintro (e | e | e) <;> (have hbw : b < w.heap.size := hbw; omega))
      have hfz := (HA5.out.1.cell h8).2
      have hc9 := (HA5.out.1.cell h8).1
      have HA6 : Hid (Arr8 (w5.setCell ⟨w2.heap.size, k, none⟩ (.int .u8 (y : Int))) w2.heap.size 52 (fun j => .int .u8 (fv lf (k + 1) j : Nat)) ∧ Arr8 (w5.setCell ⟨w2.heap.size, k, none⟩ (.int .u8 (y : Int))) (w2.heap.size + 1) 52 (fun _ => .int .u8 0)) := Lib.hid ⟨(HA5.out.1.set h8 _).congr (fun j _ => HFV.out j), HA5.out.2.only (Only.set (fun q => q = w2.heap.size) _ w2.heap.size k _ rfl) (fun e => by omega)⟩
      have HD6 := Lib.hid (HD5.out.only (Only.set (fun q => q = w2.heap.size) _ w2.heap.size k (.int .u8 (y : Int)) rfl) (fun e => by have e : p = _ := e; omega) (fun e => by have e : bl = _ := e; omega) (fun e => by have e : bm = _ := e; omega))
      have HO6 := Lib.hid (HO5.out.setCell (p := ⟨w2.heap.size, k, none⟩) (.inr (show w.heap.size ≤ w2.heap.size by omega)) (.int .u8 (y : Int)))
      clear hd5 ho5 HW hck4
      go_wp2_with fail
      exact ⟨⟨k + 1, by omega, by omega, by go_num, HD6, HO6, HA6⟩, by simp [intOf]; omega⟩
    · have hgl := HAk.out.2.lt
      have HSY := Lib.hid (sync_yes p bl bm 8 _ _ 0 wr HDk.out)
      by_cases h8 : k < 8
      · have hn : ¬ k < n1 := fun h => hkk ⟨h8, h⟩
        clear hkk
        go_wp2_with fail
        refine (HSY.out).mono ?_
        rintro e6 w6 ⟨rfl, hd6, ho6⟩
        rw [fC_cur] at hd6
        have HD6 := Lib.hid hd6
        have HO6 := Lib.hid (HOk.out.then ho6 (fun k hk e => by rcases e with e | e | e <;> omega))
        have HA6 := Lib.hid (And.intro (HAk.out.1.only ho6 (by rintro (e | e | e) <;> omega)) (HAk.out.2.only ho6 (by rintro (e | e | e) <;> omega)))
        have hgl6 := HA6.out.2.lt
        clear hd6 ho6 HSY HDk HOk HAk
        have HRA := Lib.hid HA6.out.1.range
        have HTA := Lib.hid HA6.out.2.there
        have HAN : Hid (Arr8 (w6.setCells (w2.heap.size + 1) 0 ((List.range 8).map (fun j => Value.int .u8 (fv lf k j : Nat)))) (w2.heap.size + 1) 52 (fun j => .int .u8 (fv lf k j : Nat))) := Lib.hid HA6.out.2.setAll
        have hone : ∀ v ∈ (List.range 8).map (fun j => Value.int .u8 (fv lf k j : Nat)), v.oneCell' = true := by
          intro v hv
          rw [List.mem_map] at hv
          obtain ⟨j, _, rfl⟩ := hv
          rfl
        have HON := Lib.hid hone
        have hvl : ((List.range 8).map (fun j => Value.int .u8 (fv lf k j : Nat))).length = 8 := by rw [List.length_map, List.length_range]
        have HVL := Lib.hid hvl
        clear hone hvl
        generalize (List.range 8).map (fun j => Value.int .u8 (fv lf k j : Nat)) = VS at *
        have hsc := run_storeCells_cells (P := Try.prog) (w2.heap.size + 1) 0 VS 0 w6 (fun j hj => by have := (HTA.out j (by have := HVL.out; omega)).1; simpa using this) (fun j hj => by have := (HTA.out j (by have := HVL.out; omega)).2; simpa using this) HON.out
        simp only [Nat.add_zero] at hsc
        have ho7 : Only (fun q => q = w2.heap.size + 1) w6 (w6.setCells (w2.heap.size + 1) 0 VS) := only_cells (S := fun q => q = w2.heap.size + 1) (b := w2.heap.size + 1) rfl _ _ _ _ (Only.refl _ w6)
        have HD7 := Lib.hid (HD6.out.only ho7 (fun e => by have e : p = _ := e; omega) (fun e => by have e : bl = _ := e; omega) (fun e => by have e : bm = _ := e; omega))
        have HO7 := Lib.hid (HO6.out.then ho7 (fun q hq e => by have e : q = _ := e; omega))
        have HL7 := Lib.hid (HA6.out.1.only ho7 (fun e => by have e : w2.heap.size = w2.heap.size + 1 := e; omega))
        generalize w6.setCells (w2.heap.size + 1) 0 VS = w7 at *
        have hgt := HAN.out.lt
        have HT8 : Hid (Arr8 (w7.alloc (.cells #[.bool false, .bool false, .bool false, .bool false, .bool false, .bool false, .bool false, .bool false] 53)) w7.heap.size 53 (fun _ => .bool false)) := Lib.hid (by
          refine ⟨#[.bool false, .bool false, .bool false, .bool false, .bool false, .bool false, .bool false, .bool false], by rw [heap_alloc, if_pos rfl], rfl, ?_⟩
          intro j hj
          rcases (by omega : j = 0 ∨ j = 1 ∨ j = 2 ∨ j = 3 ∨ j = 4 ∨ j = 5 ∨ j = 6 ∨ j = 7) with rfl | rfl | rfl | rfl | rfl | rfl | rfl | rfl <;> rfl)
        have ho8 : Only (fun _ => False) w7 (w7.alloc (.cells #[.bool false, .bool false, .bool false, .bool false, .bool false, .bool false, .bool false, .bool false] 53)) := (Only.refl _ w7).alloc _
        have HD8 := Lib.hid (HD7.out.only ho8 (fun f => f) (fun f => f) (fun f => f))
        have HO8 := Lib.hid (HO7.out.then ho8 (fun _ _ f => f))
        have HA8 := Lib.hid (And.intro (HL7.out.only ho8 (fun f => f)) (HAN.out.only ho8 (fun f => f)))
        clear ho7 ho8 HL7 HAN HD7 HO7 HA6 HD6 HO6
        go_wp2_with (first
          | (refine wpList_load_mid rfl 52 (Operand.tmp 9) rfl w2.heap.size 0 rfl VS _ HRA.out Try.underlying52 rfl (by rw [info_8, HVL.out]) ?_))
        generalize w7.alloc (.cells #[.bool false, .bool false, .bool false, .bool false, .bool false, .bool false, .bool false, .bool false] 53) = w8 at *
        clear hsc
        have hj20 := HJ.out.1
        go_loopw [13] (fun i wr => ∃ (q : Nat) (tv : Nat → Bool) (nv : Nat → Nat), q ≤ n2 ∧ q ≤ 20 ∧ i = .int .i64 (q : Int) ∧ Hid (∀ j, nv j < 256) ∧ Hid (DskAt wr p bl bm 8 (fun i => List.replicate 64 (fv lf k i)) (gC tv nv) 0 false) ∧ Hid (Only (fun _ => False) w wr) ∧
          Hid (Arr8 wr w2.heap.size 52 (fun j => .int .u8 (fv lf k j : Nat)) ∧ Arr8 wr (w2.heap.size + 1) 52 (fun j => .int .u8 (nv j : Nat)) ∧ Arr8 wr w7.heap.size 53 (fun j => .bool (tv j)))) (fun i _ => 20 - (intOf i).toNat)
        case atStart => exact ⟨0, fun _ => false, fv lf k, by omega, by omega, rfl, Lib.hid (HFVB.out k), Lib.hid (by rw [gC_start]; exact HD8.out), HO8, Lib.hid ⟨HA8.out.1, HA8.out.2, HT8.out⟩⟩
        case round =>
          clear HD8 HO8 HA8 HT8
          obtain ⟨q, tv, nv, hqn, hq20, rfl, HNV, HDq, HOq, HAq⟩ := hrel
          by_cases hqq : q < n2 ∧ q < 20
          · obtain ⟨hq1, hq2⟩ := hqq
            obtain ⟨b, o, rfl, hcell⟩ := HJ.out.2.resolve_left (by omega)
            obtain ⟨z, y, hy, d1, d3⟩ := hcell q hq1
            obtain ⟨A, hA, hA8⟩ := kmod z 8 (by omega) (by omega)
            have hA8' : A < 8 := by omega
            have hd1 := HOq.out.cell' d1 (fun f => f)
            have hd3 := HOq.out.cell' d3 (fun f => f)
            have HJC := Lib.hid d3
            have HGS := Lib.hid (gC_step tv nv hA8' y)
            have HSC := Lib.hid (sector_any y hy wr)
            have hrs := HAq.out.2.2.lt
            have hbw : b < w.heap.size := World.block_lt_of_cell? w _ d1
            clear hcell d1 d3 hA8
            go_wp2_with fail
            refine (HSC.out).mono ?_
            rintro e4 w4 ⟨g4, cap4, rfl, hb4, ho4, hg4⟩
            have hgd : ¬ Dbl p bl bm g4 := by rintro (e | e | e) <;> omega
            have HW := Lib.hid (write_one p bl bm _ _ A hA8' g4 cap4 y w4 (HDq.out.only ho4 (fun f => f) (fun f => f) (fun f => f)) (by rw [List.length_replicate] at hb4; exact hb4) hgd)
            have HO4 := Lib.hid (HOq.out.then ho4 (fun _ _ f => f))
            have HA4 := Lib.hid (And.intro (HAq.out.1.only ho4 (fun f => f)) (And.intro (HAq.out.2.1.only ho4 (fun f => f)) (HAq.out.2.2.only ho4 (fun f => f))))
            rw [List.length_replicate]
            clear hb4 ho4 HSC hd1 hd3
            go_wp2_with fail
            refine (HW.out).mono ?_
            rintro e5 w5 ⟨rfl, hd5, ho5⟩
            rw [HGS.out] at hd5
            have HD5 := Lib.hid hd5
            have HO5 := Lib.hid (HO4.out.then ho5 (fun k hk e => by rcases e with e | e | e <;> omega))
            have HA5 := Lib.hid (And.intro (HA4.out.1.only ho5 (by rintro (e | e | e) <;> omega)) (And.intro (HA4.out.2.1.only ho5 (by rintro (e | e | e) <;> omega)) (HA4.out.2.2.only ho5 (by rintro (e | e | e) <;> omega))))
            clear hd5 ho5 HW HGS
            have hd5 := HO5.out.cell' (show w.cell? ⟨b, o + q * 6 + 3, none⟩ = some (.int .u8 (y : Int)) from HJC.out) (fun f => f)
            have hn5 := (HA5.out.2.1.cell hA8').1
            have hn6 := (HA5.out.2.1.cell hA8').2
            have ht5 := (HA5.out.2.2.cell hA8').1
            have ht6 := (HA5.out.2.2.cell hA8').2
            have hne : ¬ (w2.heap.size + 1 = w7.heap.size) := by omega
            have HNV2 : Hid (∀ j, (if j = A then y else nv j) < 256) := Lib.hid (fun j => by
              by_cases e : j = A
              · rw [if_pos e]; exact hy
              · rw [if_neg e]; exact HNV.out j)
            go_wp2_with fail
            have ho9 : Only (fun r => r = w2.heap.size + 1 ∨ r = w7.heap.size) w5 ((w5.setCell ⟨w2.heap.size + 1, A, none⟩ (.int .u8 (y : Int))).setCell ⟨w7.heap.size, A, none⟩ (.bool true)) := ((Only.refl _ w5).setCell (p := ⟨w2.heap.size + 1, A, none⟩) (.inl (.inl rfl)) _).setCell (p := ⟨w7.heap.size, A, none⟩) (.inl (.inr rfl)) _
            refine ⟨⟨q + 1, (fun j => if j = A then true else tv j), (fun j => if j = A then y else nv j), by omega, by omega, by go_num, HNV2, Lib.hid (HD5.out.only ho9 (by rintro (e | e) <;> omega) (by rintro (e | e) <;> omega) (by rintro (e | e) <;> omega)), Lib.hid (HO5.out.then ho9 (by rintro r hr (e | e) <;> omega)), Lib.hid ⟨HA5.out.1.only ho9 (by rintro (e | e) <;> omega), ?_, ?_⟩⟩, by simp [intOf]; omega⟩
            · refine ((HA5.out.2.1.set hA8' (.int .u8 (y : Int))).only (Only.set (fun r => r = w7.heap.size) _ w7.heap.size A (.bool true) rfl) hne).congr (fun j hj => ?_)
              by_cases e : j = A
              · rw [if_pos e]; simp only [if_pos e]
              · rw [if_neg e]; simp only [if_neg e]
            · refine ((HA5.out.2.2.only (Only.set (fun r => r = w2.heap.size + 1) _ (w2.heap.size + 1) A (.int .u8 (y : Int)) rfl) (fun e => hne e.symm)).set hA8' (.bool true)).congr (fun j hj => ?_)
              by_cases e : j = A
              · rw [if_pos e]; simp only [if_pos e]
              · rw [if_neg e]; simp only [if_neg e]
          · have hgq := HAq.out.2.2.lt
            have HCR := Lib.hid (crash_any p bl bm 8 _ _ 0 false a3 n3 c3 kl wr HDq.out (HK.out.only HOq.out (fun _ _ f => f)) (fun h0 x hx hD => by have := HL.out h0 x hx; rcases hD with e | e | e <;> omega))
            have hbd : ∀ i, (gC tv nv i).isSome = true → i < 8 := fun i hi => HDq.out.map.bound hi
            have HOR : Hid (∀ i, i < 8 → crL (fun i => List.replicate 64 (fv lf k i)) (gC tv nv) kl 8 i = List.replicate 64 (fv lf k i) ∨ (tv i = true ∧ crL (fun i => List.replicate 64 (fv lf k i)) (gC tv nv) kl 8 i = List.replicate 64 (nv i))) := Lib.hid (fun i hi => by
              rcases crL_or (L := fun i => List.replicate 64 (fv lf k i)) (kl := kl) hbd i with h | ⟨l, hl, h⟩
              · exact .inl h
              · unfold gC at hl
                by_cases e : i < 8 ∧ tv i = true
                · rw [if_pos e] at hl
                  injection hl with hl
                  exact .inr ⟨e.2, by rw [h, ← hl]⟩
                · rw [if_neg e] at hl; cases hl)
            clear hbd
            generalize crL (fun i => List.replicate 64 (fv lf k i)) (gC tv nv) kl 8 = LL at *
            by_cases hqn2 : q < n2
            · have hq20' : ¬ q < 20 := fun h => hqq ⟨hqn2, h⟩
              clear hqq
              go_wp2_with fail
              refine (HCR.out).mono ?_
              rintro e6 w9 ⟨rfl, hd9, ho9⟩
              have HD9 := Lib.hid hd9
              have HO9 := Lib.hid (HOq.out.then ho9 (fun k hk e => by rcases e with e | e | e <;> omega))
              have HA9 := Lib.hid (And.intro (HAq.out.1.only ho9 (by rintro (e | e | e) <;> omega)) (And.intro (HAq.out.2.1.only ho9 (by rintro (e | e | e) <;> omega)) (HAq.out.2.2.only ho9 (by rintro (e | e | e) <;> omega))))
              clear hd9 ho9 HCR HDq HOq HAq
              go_wp2_with fail
              go_loopw [15] (fun i wr => ∃ x : Nat, x ≤ 8 ∧ i = .int .i64 (x : Int) ∧ Hid (DskAt wr p bl bm 8 LL (fun _ => none) 0 false) ∧ Hid (Only (fun _ => False) w wr) ∧
                Hid (Arr8 wr w2.heap.size 52 (fun j => .int .u8 (fv lf k j : Nat)) ∧ Arr8 wr (w2.heap.size + 1) 52 (fun j => .int .u8 (nv j : Nat)) ∧ Arr8 wr w7.heap.size 53 (fun j => .bool (tv j)))) (fun i _ => 8 - (intOf i).toNat)
              case atStart => exact ⟨0, by omega, rfl, HD9, HO9, HA9⟩
              case round =>
                clear HD9 HO9 HA9
                obtain ⟨x, hx8, rfl, HDx, HOx, HAx⟩ := hrel
                by_cases h9 : x < 8
                · have hz : secs (cur LL (fun _ => none)) x 1 = LL x := by simp [secs, cur]
                  have hrd := read_yes p bl bm 8 LL (fun _ => none) 0 x 1 (by omega) wr HDx.out
                  rw [hz] at hrd
                  have HRD := Lib.hid hrd
                  clear hz hrd
                  go_wp2_with fail
                  refine (HRD.out).mono ?_
                  rintro e3 w10 ⟨g3, cap3, rfl, hb3, ho3, hg3⟩
                  have HO10 := Lib.hid (HOx.out.then ho3 (fun _ _ f => f))
                  have HD10 := Lib.hid (HDx.out.only ho3 (fun f => f) (fun f => f) (fun f => f))
                  have HA10 := Lib.hid (And.intro (HAx.out.1.only ho3 (fun f => f)) (And.intro (HAx.out.2.1.only ho3 (fun f => f)) (HAx.out.2.2.only ho3 (fun f => f))))
                  have hll : (LL x).length = 64 := by rcases HOR.out x h9 with h | ⟨_, h⟩ <;> rw [h, List.length_replicate]
                  rw [hll] at hb3 ⊢
                  have HKS : Hid (∀ w', Only (fun _ => False) w10 w' → (convert 34 9 (.slice (some ⟨g3, 0, none⟩) 64 cap3)).run Try.prog w' = .ok (.string (strN (LL x))) w' ∧ w'.cell? ⟨w2.heap.size, x, none⟩ = some (.int .u8 (fv lf k x : Nat)) ∧ w'.cell? ⟨w2.heap.size + 1, x, none⟩ = some (.int .u8 (nv x : Nat)) ∧ w'.cell? ⟨w7.heap.size, x, none⟩ = some (.bool (tv x)) ∧ Only (fun _ => False) w10 w') := Lib.hid (fun w' ho => by
                    refine ⟨conv_reads ((hb3.only ho (fun _ _ f => f)).reads hll.symm) cap3, ?_, ?_, ?_, ho⟩
                    · exact ((HA10.out.1.only ho (fun f => f)).cell h9).1
                    · exact ((HA10.out.2.1.only ho (fun f => f)).cell h9).1
                    · exact ((HA10.out.2.2.only ho (fun f => f)).cell h9).1)
                  have hyl := HFVB.out k x
                  have hyn := HNV.out x
                  have hx0 : (0 : Int) ≤ (x : Int) := by omega
                  have hxl : (x : Int) < 8 := by omega
                  have HX := Lib.hid (HOR.out x h9)
                  have HR64 : Hid (∀ y : Nat, (List.replicate 64 y).length = 64) := Lib.hid (fun y => List.length_replicate)
                  have HAN10 : Hid (∀ w', Only (fun _ => False) w10 w' → DskAt w' p bl bm 8 LL (fun _ => none) 0 false ∧ Only (fun _ => False) w w' ∧ Arr8 w' w2.heap.size 52 (fun j => .int .u8 (fv lf k j : Nat)) ∧ Arr8 w' (w2.heap.size + 1) 52 (fun j => .int .u8 (nv j : Nat)) ∧ Arr8 w' w7.heap.size 53 (fun j => .bool (tv j))) := Lib.hid (fun w' ho =>
                    ⟨HD10.out.only ho (fun f => f) (fun f => f) (fun f => f), HO10.out.then ho (fun _ _ f => f), HA10.out.1.only ho (fun f => f), HA10.out.2.1.only ho (fun f => f), HA10.out.2.2.only ho (fun f => f)⟩)
                  clear hb3 ho3 HRD hll HD10 HO10 HA10
                  generalize fv lf k x = yl at *
                  generalize nv x = yn at *
                  have HSL := Lib.hid (fun w' => sector_any yl hyl w')
                  have HSN := Lib.hid (fun w' => sector_any yn hyn w')
                  by_cases hs : LL x = List.replicate 64 yl
                  · rw [hs] at HKS
                    generalize hZ : strN (List.replicate 64 yl) = Z at *
                    have HZL := Lib.hid hZ
                    have hzz : (Z.toList == Z.toList) = true := by simp
                    have hzn : (Z.toList != Z.toList) = false := by simp
                    have hr64 := HR64.out yl
                    clear hs HX hZ
                    generalize hRL : List.replicate 64 yl = RL at *
                    clear hRL
                    go_wp2_with fail
                    refine wp_region_noPanic ?_
                    refine wp_region_held_drew (S := (fun w' => (convert 34 9 (.slice (some ⟨g3, 0, none⟩) 64 cap3)).run Try.prog w' = .ok (.string Z) w' ∧ w'.cell? ⟨w2.heap.size, x, none⟩ = some (.int .u8 (yl : Int)) ∧ w'.cell? ⟨w2.heap.size + 1, x, none⟩ = some (.int .u8 (yn : Int)) ∧ w'.cell? ⟨w7.heap.size, x, none⟩ = some (.bool (tv x)) ∧ Only (fun _ => False) w10 w')) (by kernel_rfl) (HKS.out _ (Only.refl _ _).drew) (fun hHeld => ?_)
                    refine wpAnyH_take (i := 0) (v := ?_) rfl (by kernel_rfl) (by kernel_rfl) (by kernel_rfl) (fun _ _ _ h => h) (Or.inl ⟨by rfl, ?_⟩) (by assumption) ?_
                    rotate_left 1
                    · intro w' hSw
                      try dsimp only at hSw
                      go_simp
                      try with_reducible rfl
                    try simp only [List.getElem_toArray, List.getElem_cons_zero, Act.put, List.setIfInBounds_toArray, List.set_cons_zero, List.set_cons_succ]
                    refine wpAnyH_take (i := 1) (v := ?_) rfl (by kernel_rfl) (by kernel_rfl) (by kernel_rfl) (fun _ _ _ h => h) (Or.inl ⟨by rfl, ?_⟩) (by assumption) ?_
                    rotate_left 1
                    · intro w' hSw
                      try dsimp only at hSw
                      go_simp
                      try with_reducible rfl
                    try simp only [List.getElem_toArray, List.getElem_cons_zero, List.getElem_cons_succ, Act.put, List.setIfInBounds_toArray, List.set_cons_zero, List.set_cons_succ]
                    refine wpAnyH_take (i := 2) (v := ?_) rfl (by kernel_rfl) (by kernel_rfl) (by kernel_rfl) (fun _ _ _ h => h) (Or.inl ⟨by rfl, ?_⟩) (by assumption) ?_
                    rotate_left 1
                    · intro w' hSw
                      try dsimp only at hSw
                      go_simp
                      try with_reducible rfl
                    try simp only [List.getElem_toArray, List.getElem_cons_zero, List.getElem_cons_succ, Act.put, List.setIfInBounds_toArray, List.set_cons_zero, List.set_cons_succ]
                    refine wpAnyH_take (i := 3) (v := ?_) rfl (by kernel_rfl) (by kernel_rfl) (by kernel_rfl) (fun _ _ _ h => h) (Or.inl ⟨by rfl, ?_⟩) (by assumption) ?_
                    rotate_left 1
                    · intro w' hSw
                      try dsimp only at hSw
                      go_simp
                      try with_reducible rfl
                    try simp only [List.getElem_toArray, List.getElem_cons_zero, List.getElem_cons_succ, Act.put, List.setIfInBounds_toArray, List.set_cons_zero, List.set_cons_succ]
                    refine wpAnyH_take (i := 4) (v := ?_) rfl (by kernel_rfl) (by kernel_rfl) (by kernel_rfl) (fun _ _ _ h => h) (Or.inl ⟨by rfl, ?_⟩) (by assumption) ?_
                    rotate_left 1
                    · intro w' hSw
                      try dsimp only at hSw
                      go_simp
                      try with_reducible rfl
                    try simp only [List.getElem_toArray, List.getElem_cons_zero, List.getElem_cons_succ, Act.put, List.setIfInBounds_toArray, List.set_cons_zero, List.set_cons_succ]
                    refine wpAnyH_take (i := 5) (v := ?_) rfl (by kernel_rfl) (by kernel_rfl) (by kernel_rfl) (fun _ _ _ h => h) (Or.inl ⟨by rfl, ?_⟩) (by assumption) ?_
                    rotate_left 1
                    · intro w' hSw
                      try dsimp only at hSw
                      go_simp
                      try with_reducible rfl
                    try simp only [List.getElem_toArray, List.getElem_cons_zero, List.getElem_cons_succ, Act.put, List.setIfInBounds_toArray, List.set_cons_zero, List.set_cons_succ]
                    refine wpAnyH_take (i := 6) (v := ?_) rfl (by kernel_rfl) (by kernel_rfl) (by kernel_rfl) (fun _ _ _ h => h) (Or.inl ⟨by rfl, ?_⟩) (by assumption) ?_
                    rotate_left 1
                    · intro w' hSw
                      try dsimp only at hSw
                      go_simp
                      try with_reducible rfl
                    try simp only [List.getElem_toArray, List.getElem_cons_zero, List.getElem_cons_succ, Act.put, List.setIfInBounds_toArray, List.set_cons_zero, List.set_cons_succ]
                    refine wpAnyH_take (i := 7) (v := ?_) rfl (by kernel_rfl) (by kernel_rfl) (by kernel_rfl) (fun _ _ _ h => h) (Or.inl ⟨by rfl, ?_⟩) (by assumption) ?_
                    rotate_left 1
                    · intro w' hSw
                      try dsimp only at hSw
                      go_simp
                      try with_reducible rfl
                    try simp only [List.getElem_toArray, List.getElem_cons_zero, List.getElem_cons_succ, Act.put, List.setIfInBounds_toArray, List.set_cons_zero, List.set_cons_succ]
                    refine wpAnyH_ready (rs := [8]) (by kernel_rfl) (by simp) ?_
                    refine AllReadyH.cons rfl (fun K hK => ?_) AllReadyH.nil
                    try simp only [List.getElem_toArray, List.getElem_cons_zero, List.getElem_cons_succ]
                    go_simp
                    go_at_call 20
                    (with_reducible refine (HSL.out _).mono ?_)
                    rintro _ wq ⟨gq, cq, rfl, hbq, hoq, hgq⟩
                    have hcq := conv_reads (hbq.reads rfl) cq
                    rw [hr64] at hcq ⊢
                    rw [HZL.out] at hcq
                    try dsimp only
                    refine hK.out _ _ (HKS.out _ ((Only.refl _ w10).drew.trans hoq)) (fun hHeld2 => ?_)
                    clear hK K
                    try simp only [List.getElem_toArray, List.getElem_cons_zero, List.getElem_cons_succ, Act.put, List.setIfInBounds_toArray, List.set_cons_zero, List.set_cons_succ]
                    refine wpAnyH_ready (rs := [9]) (by kernel_rfl) (by simp) ?_
                    refine AllReadyH.cons rfl (fun K hK => ?_) AllReadyH.nil
                    try simp only [List.getElem_toArray, List.getElem_cons_zero, List.getElem_cons_succ]
                    go_simp
                    refine hK.out _ _ hHeld2 (fun hHeld3 => ?_)
                    clear hK K
                    try simp only [List.getElem_toArray, List.getElem_cons_zero, List.getElem_cons_succ, Act.put, List.setIfInBounds_toArray, List.set_cons_zero, List.set_cons_succ]
                    refine wpAnyH_take (i := 10) (v := ?_) rfl (by kernel_rfl) (by kernel_rfl) (by kernel_rfl) (fun _ _ _ h => h) (Or.inl ⟨by rfl, ?_⟩) (by assumption) ?_
                    rotate_left 1
                    · intro w' hSw
                      try dsimp only at hSw
                      go_simp
                      try with_reducible rfl
                    try simp only [List.getElem_toArray, List.getElem_cons_zero, List.getElem_cons_succ, Act.put, List.setIfInBounds_toArray, List.set_cons_zero, List.set_cons_succ]
                    refine wpAnyH_take (i := 11) (v := ?_) rfl (by kernel_rfl) (by kernel_rfl) (by kernel_rfl) (fun _ _ _ h => h) (Or.inl ⟨by rfl, ?_⟩) (by assumption) ?_
                    rotate_left 1
                    · intro w' hSw
                      try dsimp only at hSw
                      go_simp
                      try with_reducible rfl
                    try simp only [List.getElem_toArray, List.getElem_cons_zero, List.getElem_cons_succ, Act.put, List.setIfInBounds_toArray, List.set_cons_zero, List.set_cons_succ]
                    refine wpAnyH_take (i := 12) (v := undef) rfl (by kernel_rfl) (by kernel_rfl) (by kernel_rfl) (fun _ _ _ h => h) (Or.inr ⟨rfl, rfl⟩) (by assumption) ?_
                    try simp only [List.getElem_toArray, List.getElem_cons_zero, List.getElem_cons_succ, Act.put, List.setIfInBounds_toArray, List.set_cons_zero, List.set_cons_succ]
                    refine wpAnyH_take (i := 13) (v := undef) rfl (by kernel_rfl) (by kernel_rfl) (by kernel_rfl) (fun _ _ _ h => h) (Or.inr ⟨rfl, rfl⟩) (by assumption) ?_
                    try simp only [List.getElem_toArray, List.getElem_cons_zero, List.getElem_cons_succ, Act.put, List.setIfInBounds_toArray, List.set_cons_zero, List.set_cons_succ]
                    refine wpAnyH_take (i := 14) (v := undef) rfl (by kernel_rfl) (by kernel_rfl) (by kernel_rfl) (fun _ _ _ h => h) (Or.inr ⟨rfl, rfl⟩) (by assumption) ?_
                    try simp only [List.getElem_toArray, List.getElem_cons_zero, List.getElem_cons_succ, Act.put, List.setIfInBounds_toArray, List.set_cons_zero, List.set_cons_succ]
                    refine wpAnyH_take (i := 15) (v := undef) rfl (by kernel_rfl) (by kernel_rfl) (by kernel_rfl) (fun _ _ _ h => h) (Or.inr ⟨rfl, rfl⟩) (by assumption) ?_
                    try simp only [List.getElem_toArray, List.getElem_cons_zero, List.getElem_cons_succ, Act.put, List.setIfInBounds_toArray, List.set_cons_zero, List.set_cons_succ]
                    refine wpAnyH_take (i := 16) (v := undef) rfl (by kernel_rfl) (by kernel_rfl) (by kernel_rfl) (fun _ _ _ h => h) (Or.inr ⟨rfl, rfl⟩) (by assumption) ?_
                    try simp only [List.getElem_toArray, List.getElem_cons_zero, List.getElem_cons_succ, Act.put, List.setIfInBounds_toArray, List.set_cons_zero, List.set_cons_succ]
                    refine wpAnyH_take (i := 17) (v := undef) rfl (by kernel_rfl) (by kernel_rfl) (by kernel_rfl) (fun _ _ _ h => h) (Or.inr ⟨rfl, rfl⟩) (by assumption) ?_
                    try simp only [List.getElem_toArray, List.getElem_cons_zero, List.getElem_cons_succ, Act.put, List.setIfInBounds_toArray, List.set_cons_zero, List.set_cons_succ]
                    refine wpAnyH_take (i := 18) (v := undef) rfl (by kernel_rfl) (by kernel_rfl) (by kernel_rfl) (fun _ _ _ h => h) (Or.inr ⟨rfl, rfl⟩) (by assumption) ?_
                    try simp only [List.getElem_toArray, List.getElem_cons_zero, List.getElem_cons_succ, Act.put, List.setIfInBounds_toArray, List.set_cons_zero, List.set_cons_succ]
                    refine wpAnyH_take (i := 19) (v := undef) rfl (by kernel_rfl) (by kernel_rfl) (by kernel_rfl) (fun _ _ _ h => h) (Or.inr ⟨rfl, rfl⟩) (by assumption) ?_
                    try simp only [List.getElem_toArray, List.getElem_cons_zero, List.getElem_cons_succ, Act.put, List.setIfInBounds_toArray, List.set_cons_zero, List.set_cons_succ]
                    refine wpAnyH_take (i := 20) (v := undef) rfl (by kernel_rfl) (by kernel_rfl) (by kernel_rfl) (fun _ _ _ h => h) (Or.inr ⟨rfl, rfl⟩) (by assumption) ?_
                    try simp only [List.getElem_toArray, List.getElem_cons_zero, List.getElem_cons_succ, Act.put, List.setIfInBounds_toArray, List.set_cons_zero, List.set_cons_succ]
                    refine wpAnyH_take (i := 21) (v := undef) rfl (by kernel_rfl) (by kernel_rfl) (by kernel_rfl) (fun _ _ _ h => h) (Or.inr ⟨rfl, rfl⟩) (by assumption) ?_
                    try simp only [List.getElem_toArray, List.getElem_cons_zero, List.getElem_cons_succ, Act.put, List.setIfInBounds_toArray, List.set_cons_zero, List.set_cons_succ]
                    refine wpAnyH_take (i := 22) (v := undef) rfl (by kernel_rfl) (by kernel_rfl) (by kernel_rfl) (fun _ _ _ h => h) (Or.inr ⟨rfl, rfl⟩) (by assumption) ?_
                    try simp only [List.getElem_toArray, List.getElem_cons_zero, List.getElem_cons_succ, Act.put, List.setIfInBounds_toArray, List.set_cons_zero, List.set_cons_succ]
                    refine wpAnyH_take (i := 23) (v := undef) rfl (by kernel_rfl) (by kernel_rfl) (by kernel_rfl) (fun _ _ _ h => h) (Or.inr ⟨rfl, rfl⟩) (by assumption) ?_
                    try simp only [List.getElem_toArray, List.getElem_cons_zero, List.getElem_cons_succ, Act.put, List.setIfInBounds_toArray, List.set_cons_zero, List.set_cons_succ]
                    refine wpAnyH_take (i := 24) (v := undef) rfl (by kernel_rfl) (by kernel_rfl) (by kernel_rfl) (fun _ _ _ h => h) (Or.inr ⟨rfl, rfl⟩) (by assumption) ?_
                    try simp only [List.getElem_toArray, List.getElem_cons_zero, List.getElem_cons_succ, Act.put, List.setIfInBounds_toArray, List.set_cons_zero, List.set_cons_succ]
                    refine wpAnyH_take (i := 25) (v := undef) rfl (by kernel_rfl) (by kernel_rfl) (by kernel_rfl) (fun _ _ _ h => h) (Or.inr ⟨rfl, rfl⟩) (by assumption) ?_
                    try simp only [List.getElem_toArray, List.getElem_cons_zero, List.getElem_cons_succ, Act.put, List.setIfInBounds_toArray, List.set_cons_zero, List.set_cons_succ]
                    refine wpAnyH_take (i := 26) (v := ?_) rfl (by kernel_rfl) (by kernel_rfl) (by kernel_rfl) (fun _ _ _ h => h) (Or.inl ⟨by rfl, ?_⟩) (by assumption) ?_
                    rotate_left 1
                    · intro w' hSw
                      try dsimp only at hSw
                      go_simp
                      try with_reducible rfl
                    try simp only [List.getElem_toArray, List.getElem_cons_zero, List.getElem_cons_succ, Act.put, List.setIfInBounds_toArray, List.set_cons_zero, List.set_cons_succ]
                    refine wpAnyH_take (i := 27) (v := ?_) rfl (by kernel_rfl) (by kernel_rfl) (by kernel_rfl) (fun _ _ _ h => h) (Or.inl ⟨by rfl, ?_⟩) (by assumption) ?_
                    rotate_left 1
                    · intro w' hSw
                      try dsimp only at hSw
                      go_simp
                      try with_reducible rfl
                    try simp only [List.getElem_toArray, List.getElem_cons_zero, List.getElem_cons_succ, Act.put, List.setIfInBounds_toArray, List.set_cons_zero, List.set_cons_succ]
                    refine wpAnyH_done (by kernel_rfl) ?_ _
                    refine NoPanic.normal ?_
                    go_wp2_with fail
                    obtain ⟨h1, h2, h3⟩ := HAN10.out wq ((Only.refl _ w10).drew.trans hoq)
                    exact ⟨⟨x + 1, by omega, by go_num, Lib.hid h1, Lib.hid h2, Lib.hid h3⟩, by simp [intOf]; omega⟩
                  · obtain ⟨htv, hxn⟩ := HX.out.resolve_left hs
                    have hzne : strN (List.replicate 64 yl) ≠ strN (List.replicate 64 yn) := fun e => hs (by
                      rw [hxn]
                      exact (strN_inj (fun c hc => by rw [(List.mem_replicate.1 hc).2]; exact hyl) (fun c hc => by rw [(List.mem_replicate.1 hc).2]; exact hyn) e).symm)
                    rw [hxn, htv] at HKS
                    have hr64 := HR64.out yl
                    have hr65 := HR64.out yn
                    generalize hZL : strN (List.replicate 64 yl) = ZL at *
                    generalize hZN : strN (List.replicate 64 yn) = Z at *
                    have HZL := Lib.hid hZL
                    have HZN := Lib.hid hZN
                    have hzl : ¬ ZL.toList = Z.toList := fun e => hzne (bytes_ext e)
                    have hz1 : (Z.toList == ZL.toList) = false := by rw [beq_eq_false_iff_ne]; exact fun e => hzl e.symm
                    have hz2 : (Z.toList != ZL.toList) = true := by rw [bne_iff_ne]; exact fun e => hzl e.symm
                    clear hs HX hZL hZN hxn htv hzne hzl
                    generalize List.replicate 64 yl = RL at *
                    generalize List.replicate 64 yn = RN at *
                    go_wp2_with fail
                    go_region_held (fun w' => (convert 34 9 (.slice (some ⟨g3, 0, none⟩) 64 cap3)).run Try.prog w' = .ok (.string Z) w' ∧ w'.cell? ⟨w2.heap.size, x, none⟩ = some (.int .u8 (yl : Int)) ∧ w'.cell? ⟨w2.heap.size + 1, x, none⟩ = some (.int .u8 (yn : Int)) ∧ w'.cell? ⟨w7.heap.size, x, none⟩ = some (.bool true) ∧ Only (fun _ => False) w10 w')
                      ((refine HKS.out _ ?_; first | exact (Only.refl _ _).drew | (refine Only.trans ?_ hoq; go_split_ands; assumption) | (go_split_ands; assumption)))
                      (first | (go_at_call 20; (with_reducible refine (HSL.out _).mono ?_); rintro _ wq ⟨gq, cq, rfl, hbq, hoq, hgq⟩; have hcq := conv_reads (hbq.reads rfl) cq; rw [hr64] at hcq ⊢; rw [HZL.out] at hcq) | (go_at_call 20; (with_reducible refine (HSN.out _).mono ?_); rintro _ wq ⟨gq, cq, rfl, hbq, hoq, hgq⟩; have hcq := conv_reads (hbq.reads rfl) cq; rw [hr65] at hcq ⊢; rw [HZN.out] at hcq))
                    obtain ⟨h1, h2, h3⟩ := HAN10.out _ (by go_split_ands; assumption)
                    go_wp2_with fail
                    exact ⟨⟨x + 1, by omega, by go_num, Lib.hid h1, Lib.hid h2, Lib.hid h3⟩, by simp [intOf]; omega⟩
                · obtain rfl : x = 8 := by omega
                  have HDY := Lib.hid (dirty_any p bl bm 8 _ _ _ _ wr HDx.out)
                  go_wp2_with fail
                  refine (HDY.out).mono ?_
                  rintro e8 w8' ⟨v8, rfl, hn8⟩
                  obtain ⟨hrow, hnil, hbw⟩ := hn8
                  have hd0 : dirtyL (fun _ : Nat => (none : Option (List Nat))) 8 = [] := rfl
                  obtain rfl := hnil.2 hd0
                  have HOE := Lib.hid (HOx.out.then (Only.of_below hbw) (fun _ _ f => f))
                  clear hrow hnil hbw HDY hd0
                  go_wp2_with fail
                  go_ret
                  exact ⟨rfl, HOE.out⟩
            · clear hqq
              go_wp2_with fail
              refine (HCR.out).mono ?_
              rintro e6 w9 ⟨rfl, hd9, ho9⟩
              have HD9 := Lib.hid hd9
              have HO9 := Lib.hid (HOq.out.then ho9 (fun k hk e => by rcases e with e | e | e <;> omega))
              have HA9 := Lib.hid (And.intro (HAq.out.1.only ho9 (by rintro (e | e | e) <;> omega)) (And.intro (HAq.out.2.1.only ho9 (by rintro (e | e | e) <;> omega)) (HAq.out.2.2.only ho9 (by rintro (e | e | e) <;> omega))))
              clear hd9 ho9 HCR HDq HOq HAq
              go_wp2_with fail
              go_loopw [15] (fun i wr => ∃ x : Nat, x ≤ 8 ∧ i = .int .i64 (x : Int) ∧ Hid (DskAt wr p bl bm 8 LL (fun _ => none) 0 false) ∧ Hid (Only (fun _ => False) w wr) ∧
                Hid (Arr8 wr w2.heap.size 52 (fun j => .int .u8 (fv lf k j : Nat)) ∧ Arr8 wr (w2.heap.size + 1) 52 (fun j => .int .u8 (nv j : Nat)) ∧ Arr8 wr w7.heap.size 53 (fun j => .bool (tv j)))) (fun i _ => 8 - (intOf i).toNat)
              case atStart => exact ⟨0, by omega, rfl, HD9, HO9, HA9⟩
              case round =>
                clear HD9 HO9 HA9
                obtain ⟨x, hx8, rfl, HDx, HOx, HAx⟩ := hrel
                by_cases h9 : x < 8
                · have hz : secs (cur LL (fun _ => none)) x 1 = LL x := by simp [secs, cur]
                  have hrd := read_yes p bl bm 8 LL (fun _ => none) 0 x 1 (by omega) wr HDx.out
                  rw [hz] at hrd
                  have HRD := Lib.hid hrd
                  clear hz hrd
                  go_wp2_with fail
                  refine (HRD.out).mono ?_
                  rintro e3 w10 ⟨g3, cap3, rfl, hb3, ho3, hg3⟩
                  have HO10 := Lib.hid (HOx.out.then ho3 (fun _ _ f => f))
                  have HD10 := Lib.hid (HDx.out.only ho3 (fun f => f) (fun f => f) (fun f => f))
                  have HA10 := Lib.hid (And.intro (HAx.out.1.only ho3 (fun f => f)) (And.intro (HAx.out.2.1.only ho3 (fun f => f)) (HAx.out.2.2.only ho3 (fun f => f))))
                  have hll : (LL x).length = 64 := by rcases HOR.out x h9 with h | ⟨_, h⟩ <;> rw [h, List.length_replicate]
                  rw [hll] at hb3 ⊢
                  have HKS : Hid (∀ w', Only (fun _ => False) w10 w' → (convert 34 9 (.slice (some ⟨g3, 0, none⟩) 64 cap3)).run Try.prog w' = .ok (.string (strN (LL x))) w' ∧ w'.cell? ⟨w2.heap.size, x, none⟩ = some (.int .u8 (fv lf k x : Nat)) ∧ w'.cell? ⟨w2.heap.size + 1, x, none⟩ = some (.int .u8 (nv x : Nat)) ∧ w'.cell? ⟨w7.heap.size, x, none⟩ = some (.bool (tv x)) ∧ Only (fun _ => False) w10 w') := Lib.hid (fun w' ho => by
                    refine ⟨conv_reads ((hb3.only ho (fun _ _ f => f)).reads hll.symm) cap3, ?_, ?_, ?_, ho⟩
                    · exact ((HA10.out.1.only ho (fun f => f)).cell h9).1
                    · exact ((HA10.out.2.1.only ho (fun f => f)).cell h9).1
                    · exact ((HA10.out.2.2.only ho (fun f => f)).cell h9).1)
                  have hyl := HFVB.out k x
                  have hyn := HNV.out x
                  have hx0 : (0 : Int) ≤ (x : Int) := by omega
                  have hxl : (x : Int) < 8 := by omega
                  have HX := Lib.hid (HOR.out x h9)
                  have HR64 : Hid (∀ y : Nat, (List.replicate 64 y).length = 64) := Lib.hid (fun y => List.length_replicate)
                  have HAN10 : Hid (∀ w', Only (fun _ => False) w10 w' → DskAt w' p bl bm 8 LL (fun _ => none) 0 false ∧ Only (fun _ => False) w w' ∧ Arr8 w' w2.heap.size 52 (fun j => .int .u8 (fv lf k j : Nat)) ∧ Arr8 w' (w2.heap.size + 1) 52 (fun j => .int .u8 (nv j : Nat)) ∧ Arr8 w' w7.heap.size 53 (fun j => .bool (tv j))) := Lib.hid (fun w' ho =>
                    ⟨HD10.out.only ho (fun f => f) (fun f => f) (fun f => f), HO10.out.then ho (fun _ _ f => f), HA10.out.1.only ho (fun f => f), HA10.out.2.1.only ho (fun f => f), HA10.out.2.2.only ho (fun f => f)⟩)
                  clear hb3 ho3 HRD hll HD10 HO10 HA10
                  generalize fv lf k x = yl at *
                  generalize nv x = yn at *
                  have HSL := Lib.hid (fun w' => sector_any yl hyl w')
                  have HSN := Lib.hid (fun w' => sector_any yn hyn w')
                  by_cases hs : LL x = List.replicate 64 yl
                  · rw [hs] at HKS
                    generalize hZ : strN (List.replicate 64 yl) = Z at *
                    have HZL := Lib.hid hZ
                    have hzz : (Z.toList == Z.toList) = true := by simp
                    have hzn : (Z.toList != Z.toList) = false := by simp
                    have hr64 := HR64.out yl
                    clear hs HX hZ
                    generalize hRL : List.replicate 64 yl = RL at *
                    clear hRL
                    go_wp2_with fail
                    refine wp_region_noPanic ?_
                    refine wp_region_held_drew (S := (fun w' => (convert 34 9 (.slice (some ⟨g3, 0, none⟩) 64 cap3)).run Try.prog w' = .ok (.string Z) w' ∧ w'.cell? ⟨w2.heap.size, x, none⟩ = some (.int .u8 (yl : Int)) ∧ w'.cell? ⟨w2.heap.size + 1, x, none⟩ = some (.int .u8 (yn : Int)) ∧ w'.cell? ⟨w7.heap.size, x, none⟩ = some (.bool (tv x)) ∧ Only (fun _ => False) w10 w')) (by kernel_rfl) (HKS.out _ (Only.refl _ _).drew) (fun hHeld => ?_)
                    refine wpAnyH_take (i := 0) (v := ?_) rfl (by kernel_rfl) (by kernel_rfl) (by kernel_rfl) (fun _ _ _ h => h) (Or.inl ⟨by rfl, ?_⟩) (by assumption) ?_
                    rotate_left 1
                    · intro w' hSw
                      try dsimp only at hSw
                      go_simp
                      try with_reducible rfl
                    try simp only [List.getElem_toArray, List.getElem_cons_zero, Act.put, List.setIfInBounds_toArray, List.set_cons_zero, List.set_cons_succ]
                    refine wpAnyH_take (i := 1) (v := ?_) rfl (by kernel_rfl) (by kernel_rfl) (by kernel_rfl) (fun _ _ _ h => h) (Or.inl ⟨by rfl, ?_⟩) (by assumption) ?_
                    rotate_left 1
                    · intro w' hSw
                      try dsimp only at hSw
                      go_simp
                      try with_reducible rfl
                    try simp only [List.getElem_toArray, List.getElem_cons_zero, List.getElem_cons_succ, Act.put, List.setIfInBounds_toArray, List.set_cons_zero, List.set_cons_succ]
                    refine wpAnyH_take (i := 2) (v := ?_) rfl (by kernel_rfl) (by kernel_rfl) (by kernel_rfl) (fun _ _ _ h => h) (Or.inl ⟨by rfl, ?_⟩) (by assumption) ?_
                    rotate_left 1
                    · intro w' hSw
                      try dsimp only at hSw
                      go_simp
                      try with_reducible rfl
                    try simp only [List.getElem_toArray, List.getElem_cons_zero, List.getElem_cons_succ, Act.put, List.setIfInBounds_toArray, List.set_cons_zero, List.set_cons_succ]
                    refine wpAnyH_take (i := 3) (v := ?_) rfl (by kernel_rfl) (by kernel_rfl) (by kernel_rfl) (fun _ _ _ h => h) (Or.inl ⟨by rfl, ?_⟩) (by assumption) ?_
                    rotate_left 1
                    · intro w' hSw
                      try dsimp only at hSw
                      go_simp
                      try with_reducible rfl
                    try simp only [List.getElem_toArray, List.getElem_cons_zero, List.getElem_cons_succ, Act.put, List.setIfInBounds_toArray, List.set_cons_zero, List.set_cons_succ]
                    refine wpAnyH_take (i := 4) (v := ?_) rfl (by kernel_rfl) (by kernel_rfl) (by kernel_rfl) (fun _ _ _ h => h) (Or.inl ⟨by rfl, ?_⟩) (by assumption) ?_
                    rotate_left 1
                    · intro w' hSw
                      try dsimp only at hSw
                      go_simp
                      try with_reducible rfl
                    try simp only [List.getElem_toArray, List.getElem_cons_zero, List.getElem_cons_succ, Act.put, List.setIfInBounds_toArray, List.set_cons_zero, List.set_cons_succ]
                    refine wpAnyH_take (i := 5) (v := ?_) rfl (by kernel_rfl) (by kernel_rfl) (by kernel_rfl) (fun _ _ _ h => h) (Or.inl ⟨by rfl, ?_⟩) (by assumption) ?_
                    rotate_left 1
                    · intro w' hSw
                      try dsimp only at hSw
                      go_simp
                      try with_reducible rfl
                    try simp only [List.getElem_toArray, List.getElem_cons_zero, List.getElem_cons_succ, Act.put, List.setIfInBounds_toArray, List.set_cons_zero, List.set_cons_succ]
                    refine wpAnyH_take (i := 6) (v := ?_) rfl (by kernel_rfl) (by kernel_rfl) (by kernel_rfl) (fun _ _ _ h => h) (Or.inl ⟨by rfl, ?_⟩) (by assumption) ?_
                    rotate_left 1
                    · intro w' hSw
                      try dsimp only at hSw
                      go_simp
                      try with_reducible rfl
                    try simp only [List.getElem_toArray, List.getElem_cons_zero, List.getElem_cons_succ, Act.put, List.setIfInBounds_toArray, List.set_cons_zero, List.set_cons_succ]
                    refine wpAnyH_take (i := 7) (v := ?_) rfl (by kernel_rfl) (by kernel_rfl) (by kernel_rfl) (fun _ _ _ h => h) (Or.inl ⟨by rfl, ?_⟩) (by assumption) ?_
                    rotate_left 1
                    · intro w' hSw
                      try dsimp only at hSw
                      go_simp
                      try with_reducible rfl
                    try simp only [List.getElem_toArray, List.getElem_cons_zero, List.getElem_cons_succ, Act.put, List.setIfInBounds_toArray, List.set_cons_zero, List.set_cons_succ]
                    refine wpAnyH_ready (rs := [8]) (by kernel_rfl) (by simp) ?_
                    refine AllReadyH.cons rfl (fun K hK => ?_) AllReadyH.nil
                    try simp only [List.getElem_toArray, List.getElem_cons_zero, List.getElem_cons_succ]
                    go_simp
                    go_at_call 20
                    (with_reducible refine (HSL.out _).mono ?_)
                    rintro _ wq ⟨gq, cq, rfl, hbq, hoq, hgq⟩
                    have hcq := conv_reads (hbq.reads rfl) cq
                    rw [hr64] at hcq ⊢
                    rw [HZL.out] at hcq
                    try dsimp only
                    refine hK.out _ _ (HKS.out _ ((Only.refl _ w10).drew.trans hoq)) (fun hHeld2 => ?_)
                    clear hK K
                    try simp only [List.getElem_toArray, List.getElem_cons_zero, List.getElem_cons_succ, Act.put, List.setIfInBounds_toArray, List.set_cons_zero, List.set_cons_succ]
                    refine wpAnyH_ready (rs := [9]) (by kernel_rfl) (by simp) ?_
                    refine AllReadyH.cons rfl (fun K hK => ?_) AllReadyH.nil
                    try simp only [List.getElem_toArray, List.getElem_cons_zero, List.getElem_cons_succ]
                    go_simp
                    refine hK.out _ _ hHeld2 (fun hHeld3 => ?_)
                    clear hK K
                    try simp only [List.getElem_toArray, List.getElem_cons_zero, List.getElem_cons_succ, Act.put, List.setIfInBounds_toArray, List.set_cons_zero, List.set_cons_succ]
                    refine wpAnyH_take (i := 10) (v := ?_) rfl (by kernel_rfl) (by kernel_rfl) (by kernel_rfl) (fun _ _ _ h => h) (Or.inl ⟨by rfl, ?_⟩) (by assumption) ?_
                    rotate_left 1
                    · intro w' hSw
                      try dsimp only at hSw
                      go_simp
                      try with_reducible rfl
                    try simp only [List.getElem_toArray, List.getElem_cons_zero, List.getElem_cons_succ, Act.put, List.setIfInBounds_toArray, List.set_cons_zero, List.set_cons_succ]
                    refine wpAnyH_take (i := 11) (v := ?_) rfl (by kernel_rfl) (by kernel_rfl) (by kernel_rfl) (fun _ _ _ h => h) (Or.inl ⟨by rfl, ?_⟩) (by assumption) ?_
                    rotate_left 1
                    · intro w' hSw
                      try dsimp only at hSw
                      go_simp
                      try with_reducible rfl
                    try simp only [List.getElem_toArray, List.getElem_cons_zero, List.getElem_cons_succ, Act.put, List.setIfInBounds_toArray, List.set_cons_zero, List.set_cons_succ]
                    refine wpAnyH_take (i := 12) (v := undef) rfl (by kernel_rfl) (by kernel_rfl) (by kernel_rfl) (fun _ _ _ h => h) (Or.inr ⟨rfl, rfl⟩) (by assumption) ?_
                    try simp only [List.getElem_toArray, List.getElem_cons_zero, List.getElem_cons_succ, Act.put, List.setIfInBounds_toArray, List.set_cons_zero, List.set_cons_succ]
                    refine wpAnyH_take (i := 13) (v := undef) rfl (by kernel_rfl) (by kernel_rfl) (by kernel_rfl) (fun _ _ _ h => h) (Or.inr ⟨rfl, rfl⟩) (by assumption) ?_
                    try simp only [List.getElem_toArray, List.getElem_cons_zero, List.getElem_cons_succ, Act.put, List.setIfInBounds_toArray, List.set_cons_zero, List.set_cons_succ]
                    refine wpAnyH_take (i := 14) (v := undef) rfl (by kernel_rfl) (by kernel_rfl) (by kernel_rfl) (fun _ _ _ h => h) (Or.inr ⟨rfl, rfl⟩) (by assumption) ?_
                    try simp only [List.getElem_toArray, List.getElem_cons_zero, List.getElem_cons_succ, Act.put, List.setIfInBounds_toArray, List.set_cons_zero, List.set_cons_succ]
                    refine wpAnyH_take (i := 15) (v := undef) rfl (by kernel_rfl) (by kernel_rfl) (by kernel_rfl) (fun _ _ _ h => h) (Or.inr ⟨rfl, rfl⟩) (by assumption) ?_
                    try simp only [List.getElem_toArray, List.getElem_cons_zero, List.getElem_cons_succ, Act.put, List.setIfInBounds_toArray, List.set_cons_zero, List.set_cons_succ]
                    refine wpAnyH_take (i := 16) (v := undef) rfl (by kernel_rfl) (by kernel_rfl) (by kernel_rfl) (fun _ _ _ h => h) (Or.inr ⟨rfl, rfl⟩) (by assumption) ?_
                    try simp only [List.getElem_toArray, List.getElem_cons_zero, List.getElem_cons_succ, Act.put, List.setIfInBounds_toArray, List.set_cons_zero, List.set_cons_succ]
                    refine wpAnyH_take (i := 17) (v := undef) rfl (by kernel_rfl) (by kernel_rfl) (by kernel_rfl) (fun _ _ _ h => h) (Or.inr ⟨rfl, rfl⟩) (by assumption) ?_
                    try simp only [List.getElem_toArray, List.getElem_cons_zero, List.getElem_cons_succ, Act.put, List.setIfInBounds_toArray, List.set_cons_zero, List.set_cons_succ]
                    refine wpAnyH_take (i := 18) (v := undef) rfl (by kernel_rfl) (by kernel_rfl) (by kernel_rfl) (fun _ _ _ h => h) (Or.inr ⟨rfl, rfl⟩) (by assumption) ?_
                    try simp only [List.getElem_toArray, List.getElem_cons_zero, List.getElem_cons_succ, Act.put, List.setIfInBounds_toArray, List.set_cons_zero, List.set_cons_succ]
                    refine wpAnyH_take (i := 19) (v := undef) rfl (by kernel_rfl) (by kernel_rfl) (by kernel_rfl) (fun _ _ _ h => h) (Or.inr ⟨rfl, rfl⟩) (by assumption) ?_
                    try simp only [List.getElem_toArray, List.getElem_cons_zero, List.getElem_cons_succ, Act.put, List.setIfInBounds_toArray, List.set_cons_zero, List.set_cons_succ]
                    refine wpAnyH_take (i := 20) (v := undef) rfl (by kernel_rfl) (by kernel_rfl) (by kernel_rfl) (fun _ _ _ h => h) (Or.inr ⟨rfl, rfl⟩) (by assumption) ?_
                    try simp only [List.getElem_toArray, List.getElem_cons_zero, List.getElem_cons_succ, Act.put, List.setIfInBounds_toArray, List.set_cons_zero, List.set_cons_succ]
                    refine wpAnyH_take (i := 21) (v := undef) rfl (by kernel_rfl) (by kernel_rfl) (by kernel_rfl) (fun _ _ _ h => h) (Or.inr ⟨rfl, rfl⟩) (by assumption) ?_
                    try simp only [List.getElem_toArray, List.getElem_cons_zero, List.getElem_cons_succ, Act.put, List.setIfInBounds_toArray, List.set_cons_zero, List.set_cons_succ]
                    refine wpAnyH_take (i := 22) (v := undef) rfl (by kernel_rfl) (by kernel_rfl) (by kernel_rfl) (fun _ _ _ h => h) (Or.inr ⟨rfl, rfl⟩) (by assumption) ?_
                    try simp only [List.getElem_toArray, List.getElem_cons_zero, List.getElem_cons_succ, Act.put, List.setIfInBounds_toArray, List.set_cons_zero, List.set_cons_succ]
                    refine wpAnyH_take (i := 23) (v := undef) rfl (by kernel_rfl) (by kernel_rfl) (by kernel_rfl) (fun _ _ _ h => h) (Or.inr ⟨rfl, rfl⟩) (by assumption) ?_
                    try simp only [List.getElem_toArray, List.getElem_cons_zero, List.getElem_cons_succ, Act.put, List.setIfInBounds_toArray, List.set_cons_zero, List.set_cons_succ]
                    refine wpAnyH_take (i := 24) (v := undef) rfl (by kernel_rfl) (by kernel_rfl) (by kernel_rfl) (fun _ _ _ h => h) (Or.inr ⟨rfl, rfl⟩) (by assumption) ?_
                    try simp only [List.getElem_toArray, List.getElem_cons_zero, List.getElem_cons_succ, Act.put, List.setIfInBounds_toArray, List.set_cons_zero, List.set_cons_succ]
                    refine wpAnyH_take (i := 25) (v := undef) rfl (by kernel_rfl) (by kernel_rfl) (by kernel_rfl) (fun _ _ _ h => h) (Or.inr ⟨rfl, rfl⟩) (by assumption) ?_
                    try simp only [List.getElem_toArray, List.getElem_cons_zero, List.getElem_cons_succ, Act.put, List.setIfInBounds_toArray, List.set_cons_zero, List.set_cons_succ]
                    refine wpAnyH_take (i := 26) (v := ?_) rfl (by kernel_rfl) (by kernel_rfl) (by kernel_rfl) (fun _ _ _ h => h) (Or.inl ⟨by rfl, ?_⟩) (by assumption) ?_
                    rotate_left 1
                    · intro w' hSw
                      try dsimp only at hSw
                      go_simp
                      try with_reducible rfl
                    try simp only [List.getElem_toArray, List.getElem_cons_zero, List.getElem_cons_succ, Act.put, List.setIfInBounds_toArray, List.set_cons_zero, List.set_cons_succ]
                    refine wpAnyH_take (i := 27) (v := ?_) rfl (by kernel_rfl) (by kernel_rfl) (by kernel_rfl) (fun _ _ _ h => h) (Or.inl ⟨by rfl, ?_⟩) (by assumption) ?_
                    rotate_left 1
                    · intro w' hSw
                      try dsimp only at hSw
                      go_simp
                      try with_reducible rfl
                    try simp only [List.getElem_toArray, List.getElem_cons_zero, List.getElem_cons_succ, Act.put, List.setIfInBounds_toArray, List.set_cons_zero, List.set_cons_succ]
                    refine wpAnyH_done (by kernel_rfl) ?_ _
                    refine NoPanic.normal ?_
                    go_wp2_with fail
                    obtain ⟨h1, h2, h3⟩ := HAN10.out wq ((Only.refl _ w10).drew.trans hoq)
                    exact ⟨⟨x + 1, by omega, by go_num, Lib.hid h1, Lib.hid h2, Lib.hid h3⟩, by simp [intOf]; omega⟩
                  · obtain ⟨htv, hxn⟩ := HX.out.resolve_left hs
                    have hzne : strN (List.replicate 64 yl) ≠ strN (List.replicate 64 yn) := fun e => hs (by
                      rw [hxn]
                      exact (strN_inj (fun c hc => by rw [(List.mem_replicate.1 hc).2]; exact hyl) (fun c hc => by rw [(List.mem_replicate.1 hc).2]; exact hyn) e).symm)
                    rw [hxn, htv] at HKS
                    have hr64 := HR64.out yl
                    have hr65 := HR64.out yn
                    generalize hZL : strN (List.replicate 64 yl) = ZL at *
                    generalize hZN : strN (List.replicate 64 yn) = Z at *
                    have HZL := Lib.hid hZL
                    have HZN := Lib.hid hZN
                    have hzl : ¬ ZL.toList = Z.toList := fun e => hzne (bytes_ext e)
                    have hz1 : (Z.toList == ZL.toList) = false := by rw [beq_eq_false_iff_ne]; exact fun e => hzl e.symm
                    have hz2 : (Z.toList != ZL.toList) = true := by rw [bne_iff_ne]; exact fun e => hzl e.symm
                    clear hs HX hZL hZN hxn htv hzne hzl
                    generalize List.replicate 64 yl = RL at *
                    generalize List.replicate 64 yn = RN at *
                    go_wp2_with fail
                    go_region_held (fun w' => (convert 34 9 (.slice (some ⟨g3, 0, none⟩) 64 cap3)).run Try.prog w' = .ok (.string Z) w' ∧ w'.cell? ⟨w2.heap.size, x, none⟩ = some (.int .u8 (yl : Int)) ∧ w'.cell? ⟨w2.heap.size + 1, x, none⟩ = some (.int .u8 (yn : Int)) ∧ w'.cell? ⟨w7.heap.size, x, none⟩ = some (.bool true) ∧ Only (fun _ => False) w10 w')
                      ((refine HKS.out _ ?_; first | exact (Only.refl _ _).drew | (refine Only.trans ?_ hoq; go_split_ands; assumption) | (go_split_ands; assumption)))
                      (first | (go_at_call 20; (with_reducible refine (HSL.out _).mono ?_); rintro _ wq ⟨gq, cq, rfl, hbq, hoq, hgq⟩; have hcq := conv_reads (hbq.reads rfl) cq; rw [hr64] at hcq ⊢; rw [HZL.out] at hcq) | (go_at_call 20; (with_reducible refine (HSN.out _).mono ?_); rintro _ wq ⟨gq, cq, rfl, hbq, hoq, hgq⟩; have hcq := conv_reads (hbq.reads rfl) cq; rw [hr65] at hcq ⊢; rw [HZN.out] at hcq))
                    obtain ⟨h1, h2, h3⟩ := HAN10.out _ (by go_split_ands; assumption)
                    go_wp2_with fail
                    exact ⟨⟨x + 1, by omega, by go_num, Lib.hid h1, Lib.hid h2, Lib.hid h3⟩, by simp [intOf]; omega⟩
                · obtain rfl : x = 8 := by omega
                  have HDY := Lib.hid (dirty_any p bl bm 8 _ _ _ _ wr HDx.out)
                  go_wp2_with fail
                  refine (HDY.out).mono ?_
                  rintro e8 w8' ⟨v8, rfl, hn8⟩
                  obtain ⟨hrow, hnil, hbw⟩ := hn8
                  have hd0 : dirtyL (fun _ : Nat => (none : Option (List Nat))) 8 = [] := rfl
                  obtain rfl := hnil.2 hd0
                  have HOE := Lib.hid (HOx.out.then (Only.of_below hbw) (fun _ _ f => f))
                  clear hrow hnil hbw HDY hd0
                  go_wp2_with fail
                  go_ret
                  exact ⟨rfl, HOE.out⟩
      · clear hkk
        go_wp2_with fail
        refine (HSY.out).mono ?_
        rintro e6 w6 ⟨rfl, hd6, ho6⟩
        rw [fC_cur] at hd6
        have HD6 := Lib.hid hd6
        have HO6 := Lib.hid (HOk.out.then ho6 (fun k hk e => by rcases e with e | e | e <;> omega))
        have HA6 := Lib.hid (And.intro (HAk.out.1.only ho6 (by rintro (e | e | e) <;> omega)) (HAk.out.2.only ho6 (by rintro (e | e | e) <;> omega)))
        have hgl6 := HA6.out.2.lt
        clear hd6 ho6 HSY HDk HOk HAk
        have HRA := Lib.hid HA6.out.1.range
        have HTA := Lib.hid HA6.out.2.there
        have HAN : Hid (Arr8 (w6.setCells (w2.heap.size + 1) 0 ((List.range 8).map (fun j => Value.int .u8 (fv lf k j : Nat)))) (w2.heap.size + 1) 52 (fun j => .int .u8 (fv lf k j : Nat))) := Lib.hid HA6.out.2.setAll
        have hone : ∀ v ∈ (List.range 8).map (fun j => Value.int .u8 (fv lf k j : Nat)), v.oneCell' = true := by
          intro v hv
          rw [List.mem_map] at hv
          obtain ⟨j, _, rfl⟩ := hv
          rfl
        have HON := Lib.hid hone
        have hvl : ((List.range 8).map (fun j => Value.int .u8 (fv lf k j : Nat))).length = 8 := by rw [List.length_map, List.length_range]
        have HVL := Lib.hid hvl
        clear hone hvl
        generalize (List.range 8).map (fun j => Value.int .u8 (fv lf k j : Nat)) = VS at *
        have hsc := run_storeCells_cells (P := Try.prog) (w2.heap.size + 1) 0 VS 0 w6 (fun j hj => by have := (HTA.out j (by have := HVL.out; omega)).1; simpa using this) (fun j hj => by have := (HTA.out j (by have := HVL.out; omega)).2; simpa using this) HON.out
        simp only [Nat.add_zero] at hsc
        have ho7 : Only (fun q => q = w2.heap.size + 1) w6 (w6.setCells (w2.heap.size + 1) 0 VS) := only_cells (S := fun q => q = w2.heap.size + 1) (b := w2.heap.size + 1) rfl _ _ _ _ (Only.refl _ w6)
        have HD7 := Lib.hid (HD6.out.only ho7 (fun e => by have e : p = _ := e; omega) (fun e => by have e : bl = _ := e; omega) (fun e => by have e : bm = _ := e; omega))
        have HO7 := Lib.hid (HO6.out.then ho7 (fun q hq e => by have e : q = _ := e; omega))
        have HL7 := Lib.hid (HA6.out.1.only ho7 (fun e => by have e : w2.heap.size = w2.heap.size + 1 := e; omega))
        generalize w6.setCells (w2.heap.size + 1) 0 VS = w7 at *
        have hgt := HAN.out.lt
        have HT8 : Hid (Arr8 (w7.alloc (.cells #[.bool false, .bool false, .bool false, .bool false, .bool false, .bool false, .bool false, .bool false] 53)) w7.heap.size 53 (fun _ => .bool false)) := Lib.hid (by
          refine ⟨#[.bool false, .bool false, .bool false, .bool false, .bool false, .bool false, .bool false, .bool false], by rw [heap_alloc, if_pos rfl], rfl, ?_⟩
          intro j hj
          rcases (by omega : j = 0 ∨ j = 1 ∨ j = 2 ∨ j = 3 ∨ j = 4 ∨ j = 5 ∨ j = 6 ∨ j = 7) with rfl | rfl | rfl | rfl | rfl | rfl | rfl | rfl <;> rfl)
        have ho8 : Only (fun _ => False) w7 (w7.alloc (.cells #[.bool false, .bool false, .bool false, .bool false, .bool false, .bool false, .bool false, .bool false] 53)) := (Only.refl _ w7).alloc _
        have HD8 := Lib.hid (HD7.out.only ho8 (fun f => f) (fun f => f) (fun f => f))
        have HO8 := Lib.hid (HO7.out.then ho8 (fun _ _ f => f))
        have HA8 := Lib.hid (And.intro (HL7.out.only ho8 (fun f => f)) (HAN.out.only ho8 (fun f => f)))
        clear ho7 ho8 HL7 HAN HD7 HO7 HA6 HD6 HO6
        go_wp2_with (first
          | (refine wpList_load_mid rfl 52 (Operand.tmp 9) rfl w2.heap.size 0 rfl VS _ HRA.out Try.underlying52 rfl (by rw [info_8, HVL.out]) ?_))
        generalize w7.alloc (.cells #[.bool false, .bool false, .bool false, .bool false, .bool false, .bool false, .bool false, .bool false] 53) = w8 at *
        clear hsc
        have hj20 := HJ.out.1
        go_loopw [13] (fun i wr => ∃ (q : Nat) (tv : Nat → Bool) (nv : Nat → Nat), q ≤ n2 ∧ q ≤ 20 ∧ i = .int .i64 (q : Int) ∧ Hid (∀ j, nv j < 256) ∧ Hid (DskAt wr p bl bm 8 (fun i => List.replicate 64 (fv lf k i)) (gC tv nv) 0 false) ∧ Hid (Only (fun _ => False) w wr) ∧
          Hid (Arr8 wr w2.heap.size 52 (fun j => .int .u8 (fv lf k j : Nat)) ∧ Arr8 wr (w2.heap.size + 1) 52 (fun j => .int .u8 (nv j : Nat)) ∧ Arr8 wr w7.heap.size 53 (fun j => .bool (tv j)))) (fun i _ => 20 - (intOf i).toNat)
        case atStart => exact ⟨0, fun _ => false, fv lf k, by omega, by omega, rfl, Lib.hid (HFVB.out k), Lib.hid (by rw [gC_start]; exact HD8.out), HO8, Lib.hid ⟨HA8.out.1, HA8.out.2, HT8.out⟩⟩
        case round =>
          clear HD8 HO8 HA8 HT8
          obtain ⟨q, tv, nv, hqn, hq20, rfl, HNV, HDq, HOq, HAq⟩ := hrel
          by_cases hqq : q < n2 ∧ q < 20
          · obtain ⟨hq1, hq2⟩ := hqq
            obtain ⟨b, o, rfl, hcell⟩ := HJ.out.2.resolve_left (by omega)
            obtain ⟨z, y, hy, d1, d3⟩ := hcell q hq1
            obtain ⟨A, hA, hA8⟩ := kmod z 8 (by omega) (by omega)
            have hA8' : A < 8 := by omega
            have hd1 := HOq.out.cell' d1 (fun f => f)
            have hd3 := HOq.out.cell' d3 (fun f => f)
            have HJC := Lib.hid d3
            have HGS := Lib.hid (gC_step tv nv hA8' y)
            have HSC := Lib.hid (sector_any y hy wr)
            have hrs := HAq.out.2.2.lt
            have hbw : b < w.heap.size := World.block_lt_of_cell? w _ d1
            clear hcell d1 d3 hA8
            go_wp2_with fail
            refine (HSC.out).mono ?_
            rintro e4 w4 ⟨g4, cap4, rfl, hb4, ho4, hg4⟩
            have hgd : ¬ Dbl p bl bm g4 := by rintro (e | e | e) <;> omega
            have HW := Lib.hid (write_one p bl bm _ _ A hA8' g4 cap4 y w4 (HDq.out.only ho4 (fun f => f) (fun f => f) (fun f => f)) (by rw [List.length_replicate] at hb4; exact hb4) hgd)
            have HO4 := Lib.hid (HOq.out.then ho4 (fun _ _ f => f))
            have HA4 := Lib.hid (And.intro (HAq.out.1.only ho4 (fun f => f)) (And.intro (HAq.out.2.1.only ho4 (fun f => f)) (HAq.out.2.2.only ho4 (fun f => f))))
            rw [List.length_replicate]
            clear hb4 ho4 HSC hd1 hd3
            go_wp2_with fail
            refine (HW.out).mono ?_
            rintro e5 w5 ⟨rfl, hd5, ho5⟩
            rw [HGS.out] at hd5
            have HD5 := Lib.hid hd5
            have HO5 := Lib.hid (HO4.out.then ho5 (fun k hk e => by rcases e with e | e | e <;> omega))
            have HA5 := Lib.hid (And.intro (HA4.out.1.only ho5 (by rintro (e | e | e) <;> omega)) (And.intro (HA4.out.2.1.only ho5 (by rintro (e | e | e) <;> omega)) (HA4.out.2.2.only ho5 (by rintro (e | e | e) <;> omega))))
            clear hd5 ho5 HW HGS
            have hd5 := HO5.out.cell' (show w.cell? ⟨b, o + q * 6 + 3, none⟩ = some (.int .u8 (y : Int)) from HJC.out) (fun f => f)
            have hn5 := (HA5.out.2.1.cell hA8').1
            have hn6 := (HA5.out.2.1.cell hA8').2
            have ht5 := (HA5.out.2.2.cell hA8').1
            have ht6 := (HA5.out.2.2.cell hA8').2
            have hne : ¬ (w2.heap.size + 1 = w7.heap.size) := by omega
            have HNV2 : Hid (∀ j, (if j = A then y else nv j) < 256) := Lib.hid (fun j => by
              by_cases e : j = A
              · rw [if_pos e]; exact hy
              · rw [if_neg e]; exact HNV.out j)
            go_wp2_with fail
            have ho9 : Only (fun r => r = w2.heap.size + 1 ∨ r = w7.heap.size) w5 ((w5.setCell ⟨w2.heap.size + 1, A, none⟩ (.int .u8 (y : Int))).setCell ⟨w7.heap.size, A, none⟩ (.bool true)) := ((Only.refl _ w5).setCell (p := ⟨w2.heap.size + 1, A, none⟩) (.inl (.inl rfl)) _).setCell (p := ⟨w7.heap.size, A, none⟩) (.inl (.inr rfl)) _
            refine ⟨⟨q + 1, (fun j => if j = A then true else tv j), (fun j => if j = A then y else nv j), by omega, by omega, by go_num, HNV2, Lib.hid (HD5.out.only ho9 (by rintro (e | e) <;> omega) (by rintro (e | e) <;> omega) (by rintro (e | e) <;> omega)), Lib.hid (HO5.out.then ho9 (by rintro r hr (e | e) <;> omega)), Lib.hid ⟨HA5.out.1.only ho9 (by rintro (e | e) <;> omega), ?_, ?_⟩⟩, by simp [intOf]; omega⟩
            · refine ((HA5.out.2.1.set hA8' (.int .u8 (y : Int))).only (Only.set (fun r => r = w7.heap.size) _ w7.heap.size A (.bool true) rfl) hne).congr (fun j hj => ?_)
              by_cases e : j = A
              · rw [if_pos e]; simp only [if_pos e]
              · rw [if_neg e]; simp only [if_neg e]
            · refine ((HA5.out.2.2.only (Only.set (fun r => r = w2.heap.size + 1) _ (w2.heap.size + 1) A (.int .u8 (y : Int)) rfl) (fun e => hne e.symm)).set hA8' (.bool true)).congr (fun j hj => ?_)
              by_cases e : j = A
              · rw [if_pos e]; simp only [if_pos e]
              · rw [if_neg e]; simp only [if_neg e]
          · have hgq := HAq.out.2.2.lt
            have HCR := Lib.hid (crash_any p bl bm 8 _ _ 0 false a3 n3 c3 kl wr HDq.out (HK.out.only HOq.out (fun _ _ f => f)) (fun h0 x hx hD => by have := HL.out h0 x hx; rcases hD with e | e | e <;> omega))
            have hbd : ∀ i, (gC tv nv i).isSome = true → i < 8 := fun i hi => HDq.out.map.bound hi
            have HOR : Hid (∀ i, i < 8 → crL (fun i => List.replicate 64 (fv lf k i)) (gC tv nv) kl 8 i = List.replicate 64 (fv lf k i) ∨ (tv i = true ∧ crL (fun i => List.replicate 64 (fv lf k i)) (gC tv nv) kl 8 i = List.replicate 64 (nv i))) := Lib.hid (fun i hi => by
              rcases crL_or (L := fun i => List.replicate 64 (fv lf k i)) (kl := kl) hbd i with h | ⟨l, hl, h⟩
              · exact .inl h
              · unfold gC at hl
                by_cases e : i < 8 ∧ tv i = true
                · rw [if_pos e] at hl
                  injection hl with hl
                  exact .inr ⟨e.2, by rw [h, ← hl]⟩
                · rw [if_neg e] at hl; cases hl)
            clear hbd
            generalize crL (fun i => List.replicate 64 (fv lf k i)) (gC tv nv) kl 8 = LL at *
            by_cases hqn2 : q < n2
            · have hq20' : ¬ q < 20 := fun h => hqq ⟨hqn2, h⟩
              clear hqq
              go_wp2_with fail
              refine (HCR.out).mono ?_
              rintro e6 w9 ⟨rfl, hd9, ho9⟩
              have HD9 := Lib.hid hd9
              have HO9 := Lib.hid (HOq.out.then ho9 (fun k hk e => by rcases e with e | e | e <;> omega))
              have HA9 := Lib.hid (And.intro (HAq.out.1.only ho9 (by rintro (e | e | e) <;> omega)) (And.intro (HAq.out.2.1.only ho9 (by rintro (e | e | e) <;> omega)) (HAq.out.2.2.only ho9 (by rintro (e | e | e) <;> omega))))
              clear hd9 ho9 HCR HDq HOq HAq
              go_wp2_with fail
              go_loopw [15] (fun i wr => ∃ x : Nat, x ≤ 8 ∧ i = .int .i64 (x : Int) ∧ Hid (DskAt wr p bl bm 8 LL (fun _ => none) 0 false) ∧ Hid (Only (fun _ => False) w wr) ∧
                Hid (Arr8 wr w2.heap.size 52 (fun j => .int .u8 (fv lf k j : Nat)) ∧ Arr8 wr (w2.heap.size + 1) 52 (fun j => .int .u8 (nv j : Nat)) ∧ Arr8 wr w7.heap.size 53 (fun j => .bool (tv j)))) (fun i _ => 8 - (intOf i).toNat)
              case atStart => exact ⟨0, by omega, rfl, HD9, HO9, HA9⟩
              case round =>
                clear HD9 HO9 HA9
                obtain ⟨x, hx8, rfl, HDx, HOx, HAx⟩ := hrel
                by_cases h9 : x < 8
                · have hz : secs (cur LL (fun _ => none)) x 1 = LL x := by simp [secs, cur]
                  have hrd := read_yes p bl bm 8 LL (fun _ => none) 0 x 1 (by omega) wr HDx.out
                  rw [hz] at hrd
                  have HRD := Lib.hid hrd
                  clear hz hrd
                  go_wp2_with fail
                  refine (HRD.out).mono ?_
                  rintro e3 w10 ⟨g3, cap3, rfl, hb3, ho3, hg3⟩
                  have HO10 := Lib.hid (HOx.out.then ho3 (fun _ _ f => f))
                  have HD10 := Lib.hid (HDx.out.only ho3 (fun f => f) (fun f => f) (fun f => f))
                  have HA10 := Lib.hid (And.intro (HAx.out.1.only ho3 (fun f => f)) (And.intro (HAx.out.2.1.only ho3 (fun f => f)) (HAx.out.2.2.only ho3 (fun f => f))))
                  have hll : (LL x).length = 64 := by rcases HOR.out x h9 with h | ⟨_, h⟩ <;> rw [h, List.length_replicate]
                  rw [hll] at hb3 ⊢
                  have HKS : Hid (∀ w', Only (fun _ => False) w10 w' → (convert 34 9 (.slice (some ⟨g3, 0, none⟩) 64 cap3)).run Try.prog w' = .ok (.string (strN (LL x))) w' ∧ w'.cell? ⟨w2.heap.size, x, none⟩ = some (.int .u8 (fv lf k x : Nat)) ∧ w'.cell? ⟨w2.heap.size + 1, x, none⟩ = some (.int .u8 (nv x : Nat)) ∧ w'.cell? ⟨w7.heap.size, x, none⟩ = some (.bool (tv x)) ∧ Only (fun _ => False) w10 w') := Lib.hid (fun w' ho => by
                    refine ⟨conv_reads ((hb3.only ho (fun _ _ f => f)).reads hll.symm) cap3, ?_, ?_, ?_, ho⟩
                    · exact ((HA10.out.1.only ho (fun f => f)).cell h9).1
                    · exact ((HA10.out.2.1.only ho (fun f => f)).cell h9).1
                    · exact ((HA10.out.2.2.only ho (fun f => f)).cell h9).1)
                  have hyl := HFVB.out k x
                  have hyn := HNV.out x
                  have hx0 : (0 : Int) ≤ (x : Int) := by omega
                  have hxl : (x : Int) < 8 := by omega
                  have HX := Lib.hid (HOR.out x h9)
                  have HR64 : Hid (∀ y : Nat, (List.replicate 64 y).length = 64) := Lib.hid (fun y => List.length_replicate)
                  have HAN10 : Hid (∀ w', Only (fun _ => False) w10 w' → DskAt w' p bl bm 8 LL (fun _ => none) 0 false ∧ Only (fun _ => False) w w' ∧ Arr8 w' w2.heap.size 52 (fun j => .int .u8 (fv lf k j : Nat)) ∧ Arr8 w' (w2.heap.size + 1) 52 (fun j => .int .u8 (nv j : Nat)) ∧ Arr8 w' w7.heap.size 53 (fun j => .bool (tv j))) := Lib.hid (fun w' ho =>
                    ⟨HD10.out.only ho (fun f => f) (fun f => f) (fun f => f), HO10.out.then ho (fun _ _ f => f), HA10.out.1.only ho (fun f => f), HA10.out.2.1.only ho (fun f => f), HA10.out.2.2.only ho (fun f => f)⟩)
                  clear hb3 ho3 HRD hll HD10 HO10 HA10
                  generalize fv lf k x = yl at *
                  generalize nv x = yn at *
                  have HSL := Lib.hid (fun w' => sector_any yl hyl w')
                  have HSN := Lib.hid (fun w' => sector_any yn hyn w')
                  by_cases hs : LL x = List.replicate 64 yl
                  · rw [hs] at HKS
                    generalize hZ : strN (List.replicate 64 yl) = Z at *
                    have HZL := Lib.hid hZ
                    have hzz : (Z.toList == Z.toList) = true := by simp
                    have hzn : (Z.toList != Z.toList) = false := by simp
                    have hr64 := HR64.out yl
                    clear hs HX hZ
                    generalize hRL : List.replicate 64 yl = RL at *
                    clear hRL
                    go_wp2_with fail
                    refine wp_region_noPanic ?_
                    refine wp_region_held_drew (S := (fun w' => (convert 34 9 (.slice (some ⟨g3, 0, none⟩) 64 cap3)).run Try.prog w' = .ok (.string Z) w' ∧ w'.cell? ⟨w2.heap.size, x, none⟩ = some (.int .u8 (yl : Int)) ∧ w'.cell? ⟨w2.heap.size + 1, x, none⟩ = some (.int .u8 (yn : Int)) ∧ w'.cell? ⟨w7.heap.size, x, none⟩ = some (.bool (tv x)) ∧ Only (fun _ => False) w10 w')) (by kernel_rfl) (HKS.out _ (Only.refl _ _).drew) (fun hHeld => ?_)
                    refine wpAnyH_take (i := 0) (v := ?_) rfl (by kernel_rfl) (by kernel_rfl) (by kernel_rfl) (fun _ _ _ h => h) (Or.inl ⟨by rfl, ?_⟩) (by assumption) ?_
                    rotate_left 1
                    · intro w' hSw
                      try dsimp only at hSw
                      go_simp
                      try with_reducible rfl
                    try simp only [List.getElem_toArray, List.getElem_cons_zero, Act.put, List.setIfInBounds_toArray, List.set_cons_zero, List.set_cons_succ]
                    refine wpAnyH_take (i := 1) (v := ?_) rfl (by kernel_rfl) (by kernel_rfl) (by kernel_rfl) (fun _ _ _ h => h) (Or.inl ⟨by rfl, ?_⟩) (by assumption) ?_
                    rotate_left 1
                    · intro w' hSw
                      try dsimp only at hSw
                      go_simp
                      try with_reducible rfl
                    try simp only [List.getElem_toArray, List.getElem_cons_zero, List.getElem_cons_succ, Act.put, List.setIfInBounds_toArray, List.set_cons_zero, List.set_cons_succ]
                    refine wpAnyH_take (i := 2) (v := ?_) rfl (by kernel_rfl) (by kernel_rfl) (by kernel_rfl) (fun _ _ _ h => h) (Or.inl ⟨by rfl, ?_⟩) (by assumption) ?_
                    rotate_left 1
                    · intro w' hSw
                      try dsimp only at hSw
                      go_simp
                      try with_reducible rfl
                    try simp only [List.getElem_toArray, List.getElem_cons_zero, List.getElem_cons_succ, Act.put, List.setIfInBounds_toArray, List.set_cons_zero, List.set_cons_succ]
                    refine wpAnyH_take (i := 3) (v := ?_) rfl (by kernel_rfl) (by kernel_rfl) (by kernel_rfl) (fun _ _ _ h => h) (Or.inl ⟨by rfl, ?_⟩) (by assumption) ?_
                    rotate_left 1
                    · intro w' hSw
                      try dsimp only at hSw
                      go_simp
                      try with_reducible rfl
                    try simp only [List.getElem_toArray, List.getElem_cons_zero, List.getElem_cons_succ, Act.put, List.setIfInBounds_toArray, List.set_cons_zero, List.set_cons_succ]
                    refine wpAnyH_take (i := 4) (v := ?_) rfl (by kernel_rfl) (by kernel_rfl) (by kernel_rfl) (fun _ _ _ h => h) (Or.inl ⟨by rfl, ?_⟩) (by assumption) ?_
                    rotate_left 1
                    · intro w' hSw
                      try dsimp only at hSw
                      go_simp
                      try with_reducible rfl
                    try simp only [List.getElem_toArray, List.getElem_cons_zero, List.getElem_cons_succ, Act.put, List.setIfInBounds_toArray, List.set_cons_zero, List.set_cons_succ]
                    refine wpAnyH_take (i := 5) (v := ?_) rfl (by kernel_rfl) (by kernel_rfl) (by kernel_rfl) (fun _ _ _ h => h) (Or.inl ⟨by rfl, ?_⟩) (by assumption) ?_
                    rotate_left 1
                    · intro w' hSw
                      try dsimp only at hSw
                      go_simp
                      try with_reducible rfl
                    try simp only [List.getElem_toArray, List.getElem_cons_zero, List.getElem_cons_succ, Act.put, List.setIfInBounds_toArray, List.set_cons_zero, List.set_cons_succ]
                    refine wpAnyH_take (i := 6) (v := ?_) rfl (by kernel_rfl) (by kernel_rfl) (by kernel_rfl) (fun _ _ _ h => h) (Or.inl ⟨by rfl, ?_⟩) (by assumption) ?_
                    rotate_left 1
                    · intro w' hSw
                      try dsimp only at hSw
                      go_simp
                      try with_reducible rfl
                    try simp only [List.getElem_toArray, List.getElem_cons_zero, List.getElem_cons_succ, Act.put, List.setIfInBounds_toArray, List.set_cons_zero, List.set_cons_succ]
                    refine wpAnyH_take (i := 7) (v := ?_) rfl (by kernel_rfl) (by kernel_rfl) (by kernel_rfl) (fun _ _ _ h => h) (Or.inl ⟨by rfl, ?_⟩) (by assumption) ?_
                    rotate_left 1
                    · intro w' hSw
                      try dsimp only at hSw
                      go_simp
                      try with_reducible rfl
                    try simp only [List.getElem_toArray, List.getElem_cons_zero, List.getElem_cons_succ, Act.put, List.setIfInBounds_toArray, List.set_cons_zero, List.set_cons_succ]
                    refine wpAnyH_ready (rs := [8]) (by kernel_rfl) (by simp) ?_
                    refine AllReadyH.cons rfl (fun K hK => ?_) AllReadyH.nil
                    try simp only [List.getElem_toArray, List.getElem_cons_zero, List.getElem_cons_succ]
                    go_simp
                    go_at_call 20
                    (with_reducible refine (HSL.out _).mono ?_)
                    rintro _ wq ⟨gq, cq, rfl, hbq, hoq, hgq⟩
                    have hcq := conv_reads (hbq.reads rfl) cq
                    rw [hr64] at hcq ⊢
                    rw [HZL.out] at hcq
                    try dsimp only
                    refine hK.out _ _ (HKS.out _ ((Only.refl _ w10).drew.trans hoq)) (fun hHeld2 => ?_)
                    clear hK K
                    try simp only [List.getElem_toArray, List.getElem_cons_zero, List.getElem_cons_succ, Act.put, List.setIfInBounds_toArray, List.set_cons_zero, List.set_cons_succ]
                    refine wpAnyH_ready (rs := [9]) (by kernel_rfl) (by simp) ?_
                    refine AllReadyH.cons rfl (fun K hK => ?_) AllReadyH.nil
                    try simp only [List.getElem_toArray, List.getElem_cons_zero, List.getElem_cons_succ]
                    go_simp
                    refine hK.out _ _ hHeld2 (fun hHeld3 => ?_)
                    clear hK K
                    try simp only [List.getElem_toArray, List.getElem_cons_zero, List.getElem_cons_succ, Act.put, List.setIfInBounds_toArray, List.set_cons_zero, List.set_cons_succ]
                    refine wpAnyH_take (i := 10) (v := ?_) rfl (by kernel_rfl) (by kernel_rfl) (by kernel_rfl) (fun _ _ _ h => h) (Or.inl ⟨by rfl, ?_⟩) (by assumption) ?_
                    rotate_left 1
                    · intro w' hSw
                      try dsimp only at hSw
                      go_simp
                      try with_reducible rfl
                    try simp only [List.getElem_toArray, List.getElem_cons_zero, List.getElem_cons_succ, Act.put, List.setIfInBounds_toArray, List.set_cons_zero, List.set_cons_succ]
                    refine wpAnyH_take (i := 11) (v := ?_) rfl (by kernel_rfl) (by kernel_rfl) (by kernel_rfl) (fun _ _ _ h => h) (Or.inl ⟨by rfl, ?_⟩) (by assumption) ?_
                    rotate_left 1
                    · intro w' hSw
                      try dsimp only at hSw
                      go_simp
                      try with_reducible rfl
                    try simp only [List.getElem_toArray, List.getElem_cons_zero, List.getElem_cons_succ, Act.put, List.setIfInBounds_toArray, List.set_cons_zero, List.set_cons_succ]
                    refine wpAnyH_take (i := 12) (v := undef) rfl (by kernel_rfl) (by kernel_rfl) (by kernel_rfl) (fun _ _ _ h => h) (Or.inr ⟨rfl, rfl⟩) (by assumption) ?_
                    try simp only [List.getElem_toArray, List.getElem_cons_zero, List.getElem_cons_succ, Act.put, List.setIfInBounds_toArray, List.set_cons_zero, List.set_cons_succ]
                    refine wpAnyH_take (i := 13) (v := undef) rfl (by kernel_rfl) (by kernel_rfl) (by kernel_rfl) (fun _ _ _ h => h) (Or.inr ⟨rfl, rfl⟩) (by assumption) ?_
                    try simp only [List.getElem_toArray, List.getElem_cons_zero, List.getElem_cons_succ, Act.put, List.setIfInBounds_toArray, List.set_cons_zero, List.set_cons_succ]
                    refine wpAnyH_take (i := 14) (v := undef) rfl (by kernel_rfl) (by kernel_rfl) (by kernel_rfl) (fun _ _ _ h => h) (Or.inr ⟨rfl, rfl⟩) (by assumption) ?_
                    try simp only [List.getElem_toArray, List.getElem_cons_zero, List.getElem_cons_succ, Act.put, List.setIfInBounds_toArray, List.set_cons_zero, List.set_cons_succ]
                    refine wpAnyH_take (i := 15) (v := undef) rfl (by kernel_rfl) (by kernel_rfl) (by kernel_rfl) (fun _ _ _ h => h) (Or.inr ⟨rfl, rfl⟩) (by assumption) ?_
                    try simp only [List.getElem_toArray, List.getElem_cons_zero, List.getElem_cons_succ, Act.put, List.setIfInBounds_toArray, List.set_cons_zero, List.set_cons_succ]
                    refine wpAnyH_take (i := 16) (v := undef) rfl (by kernel_rfl) (by kernel_rfl) (by kernel_rfl) (fun _ _ _ h => h) (Or.inr ⟨rfl, rfl⟩) (by assumption) ?_
                    try simp only [List.getElem_toArray, List.getElem_cons_zero, List.getElem_cons_succ, Act.put, List.setIfInBounds_toArray, List.set_cons_zero, List.set_cons_succ]
                    refine wpAnyH_take (i := 17) (v := undef) rfl (by kernel_rfl) (by kernel_rfl) (by kernel_rfl) (fun _ _ _ h => h) (Or.inr ⟨rfl, rfl⟩) (by assumption) ?_
                    try simp only [List.getElem_toArray, List.getElem_cons_zero, List.getElem_cons_succ, Act.put, List.setIfInBounds_toArray, List.set_cons_zero, List.set_cons_succ]
                    refine wpAnyH_take (i := 18) (v := undef) rfl (by kernel_rfl) (by kernel_rfl) (by kernel_rfl) (fun _ _ _ h => h) (Or.inr ⟨rfl, rfl⟩) (by assumption) ?_
                    try simp only [List.getElem_toArray, List.getElem_cons_zero, List.getElem_cons_succ, Act.put, List.setIfInBounds_toArray, List.set_cons_zero, List.set_cons_succ]
                    refine wpAnyH_take (i := 19) (v := undef) rfl (by kernel_rfl) (by kernel_rfl) (by kernel_rfl) (fun _ _ _ h => h) (Or.inr ⟨rfl, rfl⟩) (by assumption) ?_
                    try simp only [List.getElem_toArray, List.getElem_cons_zero, List.getElem_cons_succ, Act.put, List.setIfInBounds_toArray, List.set_cons_zero, List.set_cons_succ]
                    refine wpAnyH_take (i := 20) (v := undef) rfl (by kernel_rfl) (by kernel_rfl) (by kernel_rfl) (fun _ _ _ h => h) (Or.inr ⟨rfl, rfl⟩) (by assumption) ?_
                    try simp only [List.getElem_toArray, List.getElem_cons_zero, List.getElem_cons_succ, Act.put, List.setIfInBounds_toArray, List.set_cons_zero, List.set_cons_succ]
                    refine wpAnyH_take (i := 21) (v := undef) rfl (by kernel_rfl) (by kernel_rfl) (by kernel_rfl) (fun _ _ _ h => h) (Or.inr ⟨rfl, rfl⟩) (by assumption) ?_
                    try simp only [List.getElem_toArray, List.getElem_cons_zero, List.getElem_cons_succ, Act.put, List.setIfInBounds_toArray, List.set_cons_zero, List.set_cons_succ]
                    refine wpAnyH_take (i := 22) (v := undef) rfl (by kernel_rfl) (by kernel_rfl) (by kernel_rfl) (fun _ _ _ h => h) (Or.inr ⟨rfl, rfl⟩) (by assumption) ?_
                    try simp only [List.getElem_toArray, List.getElem_cons_zero, List.getElem_cons_succ, Act.put, List.setIfInBounds_toArray, List.set_cons_zero, List.set_cons_succ]
                    refine wpAnyH_take (i := 23) (v := undef) rfl (by kernel_rfl) (by kernel_rfl) (by kernel_rfl) (fun _ _ _ h => h) (Or.inr ⟨rfl, rfl⟩) (by assumption) ?_
                    try simp only [List.getElem_toArray, List.getElem_cons_zero, List.getElem_cons_succ, Act.put, List.setIfInBounds_toArray, List.set_cons_zero, List.set_cons_succ]
                    refine wpAnyH_take (i := 24) (v := undef) rfl (by kernel_rfl) (by kernel_rfl) (by kernel_rfl) (fun _ _ _ h => h) (Or.inr ⟨rfl, rfl⟩) (by assumption) ?_
                    try simp only [List.getElem_toArray, List.getElem_cons_zero, List.getElem_cons_succ, Act.put, List.setIfInBounds_toArray, List.set_cons_zero, List.set_cons_succ]
                    refine wpAnyH_take (i := 25) (v := undef) rfl (by kernel_rfl) (by kernel_rfl) (by kernel_rfl) (fun _ _ _ h => h) (Or.inr ⟨rfl, rfl⟩) (by assumption) ?_
                    try simp only [List.getElem_toArray, List.getElem_cons_zero, List.getElem_cons_succ, Act.put, List.setIfInBounds_toArray, List.set_cons_zero, List.set_cons_succ]
                    refine wpAnyH_take (i := 26) (v := ?_) rfl (by kernel_rfl) (by kernel_rfl) (by kernel_rfl) (fun _ _ _ h => h) (Or.inl ⟨by rfl, ?_⟩) (by assumption) ?_
                    rotate_left 1
                    · intro w' hSw
                      try dsimp only at hSw
                      go_simp
                      try with_reducible rfl
                    try simp only [List.getElem_toArray, List.getElem_cons_zero, List.getElem_cons_succ, Act.put, List.setIfInBounds_toArray, List.set_cons_zero, List.set_cons_succ]
                    refine wpAnyH_take (i := 27) (v := ?_) rfl (by kernel_rfl) (by kernel_rfl) (by kernel_rfl) (fun _ _ _ h => h) (Or.inl ⟨by rfl, ?_⟩) (by assumption) ?_
                    rotate_left 1
                    · intro w' hSw
                      try dsimp only at hSw
                      go_simp
                      try with_reducible rfl
                    try simp only [List.getElem_toArray, List.getElem_cons_zero, List.getElem_cons_succ, Act.put, List.setIfInBounds_toArray, List.set_cons_zero, List.set_cons_succ]
                    refine wpAnyH_done (by kernel_rfl) ?_ _
                    refine NoPanic.normal ?_
                    go_wp2_with fail
                    obtain ⟨h1, h2, h3⟩ := HAN10.out wq ((Only.refl _ w10).drew.trans hoq)
                    exact ⟨⟨x + 1, by omega, by go_num, Lib.hid h1, Lib.hid h2, Lib.hid h3⟩, by simp [intOf]; omega⟩
                  · obtain ⟨htv, hxn⟩ := HX.out.resolve_left hs
                    have hzne : strN (List.replicate 64 yl) ≠ strN (List.replicate 64 yn) := fun e => hs (by
                      rw [hxn]
                      exact (strN_inj (fun c hc => by rw [(List.mem_replicate.1 hc).2]; exact hyl) (fun c hc => by rw [(List.mem_replicate.1 hc).2]; exact hyn) e).symm)
                    rw [hxn, htv] at HKS
                    have hr64 := HR64.out yl
                    have hr65 := HR64.out yn
                    generalize hZL : strN (List.replicate 64 yl) = ZL at *
                    generalize hZN : strN (List.replicate 64 yn) = Z at *
                    have HZL := Lib.hid hZL
                    have HZN := Lib.hid hZN
                    have hzl : ¬ ZL.toList = Z.toList := fun e => hzne (bytes_ext e)
                    have hz1 : (Z.toList == ZL.toList) = false := by rw [beq_eq_false_iff_ne]; exact fun e => hzl e.symm
                    have hz2 : (Z.toList != ZL.toList) = true := by rw [bne_iff_ne]; exact fun e => hzl e.symm
                    clear hs HX hZL hZN hxn htv hzne hzl
                    generalize List.replicate 64 yl = RL at *
                    generalize List.replicate 64 yn = RN at *
                    go_wp2_with fail
                    go_region_held (fun w' => (convert 34 9 (.slice (some ⟨g3, 0, none⟩) 64 cap3)).run Try.prog w' = .ok (.string Z) w' ∧ w'.cell? ⟨w2.heap.size, x, none⟩ = some (.int .u8 (yl : Int)) ∧ w'.cell? ⟨w2.heap.size + 1, x, none⟩ = some (.int .u8 (yn : Int)) ∧ w'.cell? ⟨w7.heap.size, x, none⟩ = some (.bool true) ∧ Only (fun _ => False) w10 w')
                      ((refine HKS.out _ ?_; first | exact (Only.refl _ _).drew | (refine Only.trans ?_ hoq; go_split_ands; assumption) | (go_split_ands; assumption)))
                      (first | (go_at_call 20; (with_reducible refine (HSL.out _).mono ?_); rintro _ wq ⟨gq, cq, rfl, hbq, hoq, hgq⟩; have hcq := conv_reads (hbq.reads rfl) cq; rw [hr64] at hcq ⊢; rw [HZL.out] at hcq) | (go_at_call 20; (with_reducible refine (HSN.out _).mono ?_); rintro _ wq ⟨gq, cq, rfl, hbq, hoq, hgq⟩; have hcq := conv_reads (hbq.reads rfl) cq; rw [hr65] at hcq ⊢; rw [HZN.out] at hcq))
                    obtain ⟨h1, h2, h3⟩ := HAN10.out _ (by go_split_ands; assumption)
                    go_wp2_with fail
                    exact ⟨⟨x + 1, by omega, by go_num, Lib.hid h1, Lib.hid h2, Lib.hid h3⟩, by simp [intOf]; omega⟩
                · obtain rfl : x = 8 := by omega
                  have HDY := Lib.hid (dirty_any p bl bm 8 _ _ _ _ wr HDx.out)
                  go_wp2_with fail
                  refine (HDY.out).mono ?_
                  rintro e8 w8' ⟨v8, rfl, hn8⟩
                  obtain ⟨hrow, hnil, hbw⟩ := hn8
                  have hd0 : dirtyL (fun _ : Nat => (none : Option (List Nat))) 8 = [] := rfl
                  obtain rfl := hnil.2 hd0
                  have HOE := Lib.hid (HOx.out.then (Only.of_below hbw) (fun _ _ f => f))
                  clear hrow hnil hbw HDY hd0
                  go_wp2_with fail
                  go_ret
                  exact ⟨rfl, HOE.out⟩
            · clear hqq
              go_wp2_with fail
              refine (HCR.out).mono ?_
              rintro e6 w9 ⟨rfl, hd9, ho9⟩
              have HD9 := Lib.hid hd9
              have HO9 := Lib.hid (HOq.out.then ho9 (fun k hk e => by rcases e with e | e | e <;> omega))
              have HA9 := Lib.hid (And.intro (HAq.out.1.only ho9 (by rintro (e | e | e) <;> omega)) (And.intro (HAq.out.2.1.only ho9 (by rintro (e | e | e) <;> omega)) (HAq.out.2.2.only ho9 (by rintro (e | e | e) <;> omega))))
              clear hd9 ho9 HCR HDq HOq HAq
              go_wp2_with fail
              go_loopw [15] (fun i wr => ∃ x : Nat, x ≤ 8 ∧ i = .int .i64 (x : Int) ∧ Hid (DskAt wr p bl bm 8 LL (fun _ => none) 0 false) ∧ Hid (Only (fun _ => False) w wr) ∧
                Hid (Arr8 wr w2.heap.size 52 (fun j => .int .u8 (fv lf k j : Nat)) ∧ Arr8 wr (w2.heap.size + 1) 52 (fun j => .int .u8 (nv j : Nat)) ∧ Arr8 wr w7.heap.size 53 (fun j => .bool (tv j)))) (fun i _ => 8 - (intOf i).toNat)
              case atStart => exact ⟨0, by omega, rfl, HD9, HO9, HA9⟩
              case round =>
                clear HD9 HO9 HA9
                obtain ⟨x, hx8, rfl, HDx, HOx, HAx⟩ := hrel
                by_cases h9 : x < 8
                · have hz : secs (cur LL (fun _ => none)) x 1 = LL x := by simp [secs, cur]
                  have hrd := read_yes p bl bm 8 LL (fun _ => none) 0 x 1 (by omega) wr HDx.out
                  rw [hz] at hrd
                  have HRD := Lib.hid hrd
                  clear hz hrd
                  go_wp2_with fail
                  refine (HRD.out).mono ?_
                  rintro e3 w10 ⟨g3, cap3, rfl, hb3, ho3, hg3⟩
                  have HO10 := Lib.hid (HOx.out.then ho3 (fun _ _ f => f))
                  have HD10 := Lib.hid (HDx.out.only ho3 (fun f => f) (fun f => f) (fun f => f))
                  have HA10 := Lib.hid (And.intro (HAx.out.1.only ho3 (fun f => f)) (And.intro (HAx.out.2.1.only ho3 (fun f => f)) (HAx.out.2.2.only ho3 (fun f => f))))
                  have hll : (LL x).length = 64 := by rcases HOR.out x h9 with h | ⟨_, h⟩ <;> rw [h, List.length_replicate]
                  rw [hll] at hb3 ⊢
                  have HKS : Hid (∀ w', Only (fun _ => False) w10 w' → (convert 34 9 (.slice (some ⟨g3, 0, none⟩) 64 cap3)).run Try.prog w' = .ok (.string (strN (LL x))) w' ∧ w'.cell? ⟨w2.heap.size, x, none⟩ = some (.int .u8 (fv lf k x : Nat)) ∧ w'.cell? ⟨w2.heap.size + 1, x, none⟩ = some (.int .u8 (nv x : Nat)) ∧ w'.cell? ⟨w7.heap.size, x, none⟩ = some (.bool (tv x)) ∧ Only (fun _ => False) w10 w') := Lib.hid (fun w' ho => by
                    refine ⟨conv_reads ((hb3.only ho (fun _ _ f => f)).reads hll.symm) cap3, ?_, ?_, ?_, ho⟩
                    · exact ((HA10.out.1.only ho (fun f => f)).cell h9).1
                    · exact ((HA10.out.2.1.only ho (fun f => f)).cell h9).1
                    · exact ((HA10.out.2.2.only ho (fun f => f)).cell h9).1)
                  have hyl := HFVB.out k x
                  have hyn := HNV.out x
                  have hx0 : (0 : Int) ≤ (x : Int) := by omega
                  have hxl : (x : Int) < 8 := by omega
                  have HX := Lib.hid (HOR.out x h9)
                  have HR64 : Hid (∀ y : Nat, (List.replicate 64 y).length = 64) := Lib.hid (fun y => List.length_replicate)
                  have HAN10 : Hid (∀ w', Only (fun _ => False) w10 w' → DskAt w' p bl bm 8 LL (fun _ => none) 0 false ∧ Only (fun _ => False) w w' ∧ Arr8 w' w2.heap.size 52 (fun j => .int .u8 (fv lf k j : Nat)) ∧ Arr8 w' (w2.heap.size + 1) 52 (fun j => .int .u8 (nv j : Nat)) ∧ Arr8 w' w7.heap.size 53 (fun j => .bool (tv j))) := Lib.hid (fun w' ho =>
                    ⟨HD10.out.only ho (fun f => f) (fun f => f) (fun f => f), HO10.out.then ho (fun _ _ f => f), HA10.out.1.only ho (fun f => f), HA10.out.2.1.only ho (fun f => f), HA10.out.2.2.only ho (fun f => f)⟩)
                  clear hb3 ho3 HRD hll HD10 HO10 HA10
                  generalize fv lf k x = yl at *
                  generalize nv x = yn at *
                  have HSL := Lib.hid (fun w' => sector_any yl hyl w')
                  have HSN := Lib.hid (fun w' => sector_any yn hyn w')
                  by_cases hs : LL x = List.replicate 64 yl
                  · rw [hs] at HKS
                    generalize hZ : strN (List.replicate 64 yl) = Z at *
                    have HZL := Lib.hid hZ
                    have hzz : (Z.toList == Z.toList) = true := by simp
                    have hzn : (Z.toList != Z.toList) = false := by simp
                    have hr64 := HR64.out yl
                    clear hs HX hZ
                    generalize hRL : List.replicate 64 yl = RL at *
                    clear hRL
                    go_wp2_with fail
                    refine wp_region_noPanic ?_
                    refine wp_region_held_drew (S := (fun w' => (convert 34 9 (.slice (some ⟨g3, 0, none⟩) 64 cap3)).run Try.prog w' = .ok (.string Z) w' ∧ w'.cell? ⟨w2.heap.size, x, none⟩ = some (.int .u8 (yl : Int)) ∧ w'.cell? ⟨w2.heap.size + 1, x, none⟩ = some (.int .u8 (yn : Int)) ∧ w'.cell? ⟨w7.heap.size, x, none⟩ = some (.bool (tv x)) ∧ Only (fun _ => False) w10 w')) (by kernel_rfl) (HKS.out _ (Only.refl _ _).drew) (fun hHeld => ?_)
                    refine wpAnyH_take (i := 0) (v := ?_) rfl (by kernel_rfl) (by kernel_rfl) (by kernel_rfl) (fun _ _ _ h => h) (Or.inl ⟨by rfl, ?_⟩) (by assumption) ?_
                    rotate_left 1
                    · intro w' hSw
                      try dsimp only at hSw
                      go_simp
                      try with_reducible rfl
                    try simp only [List.getElem_toArray, List.getElem_cons_zero, Act.put, List.setIfInBounds_toArray, List.set_cons_zero, List.set_cons_succ]
                    refine wpAnyH_take (i := 1) (v := ?_) rfl (by kernel_rfl) (by kernel_rfl) (by kernel_rfl) (fun _ _ _ h => h) (Or.inl ⟨by rfl, ?_⟩) (by assumption) ?_
                    rotate_left 1
                    · intro w' hSw
                      try dsimp only at hSw
                      go_simp
                      try with_reducible rfl
                    try simp only [List.getElem_toArray, List.getElem_cons_zero, List.getElem_cons_succ, Act.put, List.setIfInBounds_toArray, List.set_cons_zero, List.set_cons_succ]
                    refine wpAnyH_take (i := 2) (v := ?_) rfl (by kernel_rfl) (by kernel_rfl) (by kernel_rfl) (fun _ _ _ h => h) (Or.inl ⟨by rfl, ?_⟩) (by assumption) ?_
                    rotate_left 1
                    · intro w' hSw
                      try dsimp only at hSw
                      go_simp
                      try with_reducible rfl
                    try simp only [List.getElem_toArray, List.getElem_cons_zero, List.getElem_cons_succ, Act.put, List.setIfInBounds_toArray, List.set_cons_zero, List.set_cons_succ]
                    refine wpAnyH_take (i := 3) (v := ?_) rfl (by kernel_rfl) (by kernel_rfl) (by kernel_rfl) (fun _ _ _ h => h) (Or.inl ⟨by rfl, ?_⟩) (by assumption) ?_
                    rotate_left 1
                    · intro w' hSw
                      try dsimp only at hSw
                      go_simp
                      try with_reducible rfl
                    try simp only [List.getElem_toArray, List.getElem_cons_zero, List.getElem_cons_succ, Act.put, List.setIfInBounds_toArray, List.set_cons_zero, List.set_cons_succ]
                    refine wpAnyH_take (i := 4) (v := ?_) rfl (by kernel_rfl) (by kernel_rfl) (by kernel_rfl) (fun _ _ _ h => h) (Or.inl ⟨by rfl, ?_⟩) (by assumption) ?_
                    rotate_left 1
                    · intro w' hSw
                      try dsimp only at hSw
                      go_simp
                      try with_reducible rfl
                    try simp only [List.getElem_toArray, List.getElem_cons_zero, List.getElem_cons_succ, Act.put, List.setIfInBounds_toArray, List.set_cons_zero, List.set_cons_succ]
                    refine wpAnyH_take (i := 5) (v := ?_) rfl (by kernel_rfl) (by kernel_rfl) (by kernel_rfl) (fun _ _ _ h => h) (Or.inl ⟨by rfl, ?_⟩) (by assumption) ?_
                    rotate_left 1
                    · intro w' hSw
                      try dsimp only at hSw
                      go_simp
                      try with_reducible rfl
                    try simp only [List.getElem_toArray, List.getElem_cons_zero, List.getElem_cons_succ, Act.put, List.setIfInBounds_toArray, List.set_cons_zero, List.set_cons_succ]
                    refine wpAnyH_take (i := 6) (v := ?_) rfl (by kernel_rfl) (by kernel_rfl) (by kernel_rfl) (fun _ _ _ h => h) (Or.inl ⟨by rfl, ?_⟩) (by assumption) ?_
                    rotate_left 1
                    · intro w' hSw
                      try dsimp only at hSw
                      go_simp
                      try with_reducible rfl
                    try simp only [List.getElem_toArray, List.getElem_cons_zero, List.getElem_cons_succ, Act.put, List.setIfInBounds_toArray, List.set_cons_zero, List.set_cons_succ]
                    refine wpAnyH_take (i := 7) (v := ?_) rfl (by kernel_rfl) (by kernel_rfl) (by kernel_rfl) (fun _ _ _ h => h) (Or.inl ⟨by rfl, ?_⟩) (by assumption) ?_
                    rotate_left 1
                    · intro w' hSw
                      try dsimp only at hSw
                      go_simp
                      try with_reducible rfl
                    try simp only [List.getElem_toArray, List.getElem_cons_zero, List.getElem_cons_succ, Act.put, List.setIfInBounds_toArray, List.set_cons_zero, List.set_cons_succ]
                    refine wpAnyH_ready (rs := [8]) (by kernel_rfl) (by simp) ?_
                    refine AllReadyH.cons rfl (fun K hK => ?_) AllReadyH.nil
                    try simp only [List.getElem_toArray, List.getElem_cons_zero, List.getElem_cons_succ]
                    go_simp
                    go_at_call 20
                    (with_reducible refine (HSL.out _).mono ?_)
                    rintro _ wq ⟨gq, cq, rfl, hbq, hoq, hgq⟩
                    have hcq := conv_reads (hbq.reads rfl) cq
                    rw [hr64] at hcq ⊢
                    rw [HZL.out] at hcq
                    try dsimp only
                    refine hK.out _ _ (HKS.out _ ((Only.refl _ w10).drew.trans hoq)) (fun hHeld2 => ?_)
                    clear hK K
                    try simp only [List.getElem_toArray, List.getElem_cons_zero, List.getElem_cons_succ, Act.put, List.setIfInBounds_toArray, List.set_cons_zero, List.set_cons_succ]
                    refine wpAnyH_ready (rs := [9]) (by kernel_rfl) (by simp) ?_
                    refine AllReadyH.cons rfl (fun K hK => ?_) AllReadyH.nil
                    try simp only [List.getElem_toArray, List.getElem_cons_zero, List.getElem_cons_succ]
                    go_simp
                    refine hK.out _ _ hHeld2 (fun hHeld3 => ?_)
                    clear hK K
                    try simp only [List.getElem_toArray, List.getElem_cons_zero, List.getElem_cons_succ, Act.put, List.setIfInBounds_toArray, List.set_cons_zero, List.set_cons_succ]
                    refine wpAnyH_take (i := 10) (v := ?_) rfl (by kernel_rfl) (by kernel_rfl) (by kernel_rfl) (fun _ _ _ h => h) (Or.inl ⟨by rfl, ?_⟩) (by assumption) ?_
                    rotate_left 1
                    · intro w' hSw
                      try dsimp only at hSw
                      go_simp
                      try with_reducible rfl
                    try simp only [List.getElem_toArray, List.getElem_cons_zero, List.getElem_cons_succ, Act.put, List.setIfInBounds_toArray, List.set_cons_zero, List.set_cons_succ]
                    refine wpAnyH_take (i := 11) (v := ?_) rfl (by kernel_rfl) (by kernel_rfl) (by kernel_rfl) (fun _ _ _ h => h) (Or.inl ⟨by rfl, ?_⟩) (by assumption) ?_
                    rotate_left 1
                    · intro w' hSw
                      try dsimp only at hSw
                      go_simp
                      try with_reducible rfl
                    try simp only [List.getElem_toArray, List.getElem_cons_zero, List.getElem_cons_succ, Act.put, List.setIfInBounds_toArray, List.set_cons_zero, List.set_cons_succ]
                    refine wpAnyH_take (i := 12) (v := undef) rfl (by kernel_rfl) (by kernel_rfl) (by kernel_rfl) (fun _ _ _ h => h) (Or.inr ⟨rfl, rfl⟩) (by assumption) ?_
                    try simp only [List.getElem_toArray, List.getElem_cons_zero, List.getElem_cons_succ, Act.put, List.setIfInBounds_toArray, List.set_cons_zero, List.set_cons_succ]
                    refine wpAnyH_take (i := 13) (v := undef) rfl (by kernel_rfl) (by kernel_rfl) (by kernel_rfl) (fun _ _ _ h => h) (Or.inr ⟨rfl, rfl⟩) (by assumption) ?_
                    try simp only [List.getElem_toArray, List.getElem_cons_zero, List.getElem_cons_succ, Act.put, List.setIfInBounds_toArray, List.set_cons_zero, List.set_cons_succ]
                    refine wpAnyH_take (i := 14) (v := undef) rfl (by kernel_rfl) (by kernel_rfl) (by kernel_rfl) (fun _ _ _ h => h) (Or.inr ⟨rfl, rfl⟩) (by assumption) ?_
                    try simp only [List.getElem_toArray, List.getElem_cons_zero, List.getElem_cons_succ, Act.put, List.setIfInBounds_toArray, List.set_cons_zero, List.set_cons_succ]
                    refine wpAnyH_take (i := 15) (v := undef) rfl (by kernel_rfl) (by kernel_rfl) (by kernel_rfl) (fun _ _ _ h => h) (Or.inr ⟨rfl, rfl⟩) (by assumption) ?_
                    try simp only [List.getElem_toArray, List.getElem_cons_zero, List.getElem_cons_succ, Act.put, List.setIfInBounds_toArray, List.set_cons_zero, List.set_cons_succ]
                    refine wpAnyH_take (i := 16) (v := undef) rfl (by kernel_rfl) (by kernel_rfl) (by kernel_rfl) (fun _ _ _ h => h) (Or.inr ⟨rfl, rfl⟩) (by assumption) ?_
                    try simp only [List.getElem_toArray, List.getElem_cons_zero, List.getElem_cons_succ, Act.put, List.setIfInBounds_toArray, List.set_cons_zero, List.set_cons_succ]
                    refine wpAnyH_take (i := 17) (v := undef) rfl (by kernel_rfl) (by kernel_rfl) (by kernel_rfl) (fun _ _ _ h => h) (Or.inr ⟨rfl, rfl⟩) (by assumption) ?_
                    try simp only [List.getElem_toArray, List.getElem_cons_zero, List.getElem_cons_succ, Act.put, List.setIfInBounds_toArray, List.set_cons_zero, List.set_cons_succ]
                    refine wpAnyH_take (i := 18) (v := undef) rfl (by kernel_rfl) (by kernel_rfl) (by kernel_rfl) (fun _ _ _ h => h) (Or.inr ⟨rfl, rfl⟩) (by assumption) ?_
                    try simp only [List.getElem_toArray, List.getElem_cons_zero, List.getElem_cons_succ, Act.put, List.setIfInBounds_toArray, List.set_cons_zero, List.set_cons_succ]
                    refine wpAnyH_take (i := 19) (v := undef) rfl (by kernel_rfl) (by kernel_rfl) (by kernel_rfl) (fun _ _ _ h => h) (Or.inr ⟨rfl, rfl⟩) (by assumption) ?_
                    try simp only [List.getElem_toArray, List.getElem_cons_zero, List.getElem_cons_succ, Act.put, List.setIfInBounds_toArray, List.set_cons_zero, List.set_cons_succ]
                    refine wpAnyH_take (i := 20) (v := undef) rfl (by kernel_rfl) (by kernel_rfl) (by kernel_rfl) (fun _ _ _ h => h) (Or.inr ⟨rfl, rfl⟩) (by assumption) ?_
                    try simp only [List.getElem_toArray, List.getElem_cons_zero, List.getElem_cons_succ, Act.put, List.setIfInBounds_toArray, List.set_cons_zero, List.set_cons_succ]
                    refine wpAnyH_take (i := 21) (v := undef) rfl (by kernel_rfl) (by kernel_rfl) (by kernel_rfl) (fun _ _ _ h => h) (Or.inr ⟨rfl, rfl⟩) (by assumption) ?_
                    try simp only [List.getElem_toArray, List.getElem_cons_zero, List.getElem_cons_succ, Act.put, List.setIfInBounds_toArray, List.set_cons_zero, List.set_cons_succ]
                    refine wpAnyH_take (i := 22) (v := undef) rfl (by kernel_rfl) (by kernel_rfl) (by kernel_rfl) (fun _ _ _ h => h) (Or.inr ⟨rfl, rfl⟩) (by assumption) ?_
                    try simp only [List.getElem_toArray, List.getElem_cons_zero, List.getElem_cons_succ, Act.put, List.setIfInBounds_toArray, List.set_cons_zero, List.set_cons_succ]
                    refine wpAnyH_take (i := 23) (v := undef) rfl (by kernel_rfl) (by kernel_rfl) (by kernel_rfl) (fun _ _ _ h => h) (Or.inr ⟨rfl, rfl⟩) (by assumption) ?_
                    try simp only [List.getElem_toArray, List.getElem_cons_zero, List.getElem_cons_succ, Act.put, List.setIfInBounds_toArray, List.set_cons_zero, List.set_cons_succ]
                    refine wpAnyH_take (i := 24) (v := undef) rfl (by kernel_rfl) (by kernel_rfl) (by kernel_rfl) (fun _ _ _ h => h) (Or.inr ⟨rfl, rfl⟩) (by assumption) ?_
                    try simp only [List.getElem_toArray, List.getElem_cons_zero, List.getElem_cons_succ, Act.put, List.setIfInBounds_toArray, List.set_cons_zero, List.set_cons_succ]
                    refine wpAnyH_take (i := 25) (v := undef) rfl (by kernel_rfl) (by kernel_rfl) (by kernel_rfl) (fun _ _ _ h => h) (Or.inr ⟨rfl, rfl⟩) (by assumption) ?_
                    try simp only [List.getElem_toArray, List.getElem_cons_zero, List.getElem_cons_succ, Act.put, List.setIfInBounds_toArray, List.set_cons_zero, List.set_cons_succ]
                    refine wpAnyH_take (i := 26) (v := ?_) rfl (by kernel_rfl) (by kernel_rfl) (by kernel_rfl) (fun _ _ _ h => h) (Or.inl ⟨by rfl, ?_⟩) (by assumption) ?_
                    rotate_left 1
                    · intro w' hSw
                      try dsimp only at hSw
                      go_simp
                      try with_reducible rfl
                    try simp only [List.getElem_toArray, List.getElem_cons_zero, List.getElem_cons_succ, Act.put, List.setIfInBounds_toArray, List.set_cons_zero, List.set_cons_succ]
                    refine wpAnyH_take (i := 27) (v := ?_) rfl (by kernel_rfl) (by kernel_rfl) (by kernel_rfl) (fun _ _ _ h => h) (Or.inl ⟨by rfl, ?_⟩) (by assumption) ?_
                    rotate_left 1
                    · intro w' hSw
                      try dsimp only at hSw
                      go_simp
                      try with_reducible rfl
                    try simp only [List.getElem_toArray, List.getElem_cons_zero, List.getElem_cons_succ, Act.put, List.setIfInBounds_toArray, List.set_cons_zero, List.set_cons_succ]
                    refine wpAnyH_done (by kernel_rfl) ?_ _
                    refine NoPanic.normal ?_
                    go_wp2_with fail
                    obtain ⟨h1, h2, h3⟩ := HAN10.out wq ((Only.refl _ w10).drew.trans hoq)
                    exact ⟨⟨x + 1, by omega, by go_num, Lib.hid h1, Lib.hid h2, Lib.hid h3⟩, by simp [intOf]; omega⟩
                  · obtain ⟨htv, hxn⟩ := HX.out.resolve_left hs
                    have hzne : strN (List.replicate 64 yl) ≠ strN (List.replicate 64 yn) := fun e => hs (by
                      rw [hxn]
                      exact (strN_inj (fun c hc => by rw [(List.mem_replicate.1 hc).2]; exact hyl) (fun c hc => by rw [(List.mem_replicate.1 hc).2]; exact hyn) e).symm)
                    rw [hxn, htv] at HKS
                    have hr64 := HR64.out yl
                    have hr65 := HR64.out yn
                    generalize hZL : strN (List.replicate 64 yl) = ZL at *
                    generalize hZN : strN (List.replicate 64 yn) = Z at *
                    have HZL := Lib.hid hZL
                    have HZN := Lib.hid hZN
                    have hzl : ¬ ZL.toList = Z.toList := fun e => hzne (bytes_ext e)
                    have hz1 : (Z.toList == ZL.toList) = false := by rw [beq_eq_false_iff_ne]; exact fun e => hzl e.symm
                    have hz2 : (Z.toList != ZL.toList) = true := by rw [bne_iff_ne]; exact fun e => hzl e.symm
                    clear hs HX hZL hZN hxn htv hzne hzl
                    generalize List.replicate 64 yl = RL at *
                    generalize List.replicate 64 yn = RN at *
                    go_wp2_with fail
                    go_region_held (fun w' => (convert 34 9 (.slice (some ⟨g3, 0, none⟩) 64 cap3)).run Try.prog w' = .ok (.string Z) w' ∧ w'.cell? ⟨w2.heap.size, x, none⟩ = some (.int .u8 (yl : Int)) ∧ w'.cell? ⟨w2.heap.size + 1, x, none⟩ = some (.int .u8 (yn : Int)) ∧ w'.cell? ⟨w7.heap.size, x, none⟩ = some (.bool true) ∧ Only (fun _ => False) w10 w')
                      ((refine HKS.out _ ?_; first | exact (Only.refl _ _).drew | (refine Only.trans ?_ hoq; go_split_ands; assumption) | (go_split_ands; assumption)))
                      (first | (go_at_call 20; (with_reducible refine (HSL.out _).mono ?_); rintro _ wq ⟨gq, cq, rfl, hbq, hoq, hgq⟩; have hcq := conv_reads (hbq.reads rfl) cq; rw [hr64] at hcq ⊢; rw [HZL.out] at hcq) | (go_at_call 20; (with_reducible refine (HSN.out _).mono ?_); rintro _ wq ⟨gq, cq, rfl, hbq, hoq, hgq⟩; have hcq := conv_reads (hbq.reads rfl) cq; rw [hr65] at hcq ⊢; rw [HZN.out] at hcq))
                    obtain ⟨h1, h2, h3⟩ := HAN10.out _ (by go_split_ands; assumption)
                    go_wp2_with fail
                    exact ⟨⟨x + 1, by omega, by go_num, Lib.hid h1, Lib.hid h2, Lib.hid h3⟩, by simp [intOf]; omega⟩
                · obtain rfl : x = 8 := by omega
                  have HDY := Lib.hid (dirty_any p bl bm 8 _ _ _ _ wr HDx.out)
                  go_wp2_with fail
                  refine (HDY.out).mono ?_
                  rintro e8 w8' ⟨v8, rfl, hn8⟩
                  obtain ⟨hrow, hnil, hbw⟩ := hn8
                  have hd0 : dirtyL (fun _ : Nat => (none : Option (List Nat))) 8 = [] := rfl
                  obtain rfl := hnil.2 hd0
                  have HOE := Lib.hid (HOx.out.then (Only.of_below hbw) (fun _ _ f => f))
                  clear hrow hnil hbw HDY hd0
                  go_wp2_with fail
                  go_ret
                  exact ⟨rfl, HOE.out⟩
end Go.Proofs.Ytlmkkpfhapkflaa.dskw
