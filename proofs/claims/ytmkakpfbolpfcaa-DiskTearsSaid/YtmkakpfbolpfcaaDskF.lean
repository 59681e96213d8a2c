/- DiskTears: its numbers. -/
import Derived.Test.YtmkakpfbolpfcaaDskD
import Derived.Test.YtmkakpfbolpfcaaDskS
namespace Go.Proofs.Ytmkakpfbolpfcaa.dskw
open Go.RowKit mem Go.Maps
set_option linter.unusedVariables false

theorem or_one (y : Nat) (h : y < 256) : ∃ Y : Nat, Y < 256 ∧ bits .or .u8 (y : Int) 1 = (Y : Int) := by
  have : ∀ y : Nat, y < 256 → 0 ≤ bits .or .u8 (y : Int) 1 ∧ bits .or .u8 (y : Int) 1 < 256 := by decide +kernel
  obtain ⟨h1, h2⟩ := this y h
  exact ⟨(bits .or .u8 (y : Int) 1).toNat, by omega, by omega⟩

/-- sectors of one byte -/
def many (Y j : Nat) : List Nat := List.replicate (j * 64) Y
theorem many_len (Y j : Nat) : (many Y j).length = j * 64 := List.length_replicate
theorem many_succ (Y j : Nat) : many Y j ++ List.replicate 64 Y = many Y (j + 1) := by
  unfold many
  rw [List.replicate_append_replicate]; congr 1; omega
theorem many_sec {Y m j : Nat} (hj : j < m) : bsec (many Y m) j = List.replicate 64 Y := by
  unfold bsec many
  rw [List.drop_replicate, List.take_replicate]
  congr 1
  omega

theorem crN_all (L : Nat → List Nat) (C : Nat → Option (List Nat)) (kl : List Bool) (ds : List Nat) : ∀ k, k ≤ ds.length → (∀ j, j < k → kl.getD j false = true) → ∀ i, crN L C kl ds k i = if i ∈ ds.take k then (C i).getD zeros else L i := by
  intro k
  induction k with
  | zero => intro _ _ i; rw [List.take_zero, if_neg (by simp)]; rfl
  | succ k ih =>
    intro hk h i
    have hlt : k < ds.length := by omega
    have hd : ds.getD k 0 = ds[k] := by rw [List.getD_eq_getElem?_getD, List.getElem?_eq_getElem hlt]; rfl
    have hmem : i ∈ ds.take (k + 1) ↔ i ∈ ds.take k ∨ i = ds[k] := by
      rw [List.take_succ_eq_append_getElem hlt, List.mem_append, List.mem_singleton]
    have hstep : crN L C kl ds (k + 1) = updL (crN L C kl ds k) (ds.getD k 0) ((C (ds.getD k 0)).getD zeros) := if_pos (h k (by omega))
    rw [hstep, hd]
    unfold updL
    by_cases e : i = ds[k]
    · rw [if_pos e, if_pos (hmem.2 (.inr e)), e]
    · rw [if_neg e, ih (by omega) (fun j hj => h j (by omega)) i]
      by_cases e2 : i ∈ ds.take k
      · rw [if_pos e2, if_pos (hmem.2 (.inl e2))]
      · rw [if_neg e2, if_neg (fun h => (hmem.1 h).elim e2 e)]

/-- where all are kept, all that is in the cache lasts -/
theorem crL_all {L : Nat → List Nat} {C : Nat → Option (List Nat)} {kl : List Bool} {n : Nat} (hb : ∀ i, (C i).isSome = true → i < n) (h : ∀ j, j < (dirtyL C n).length → kl.getD j false = true) (i : Nat) : crL L C kl n i = cur L C i := by
  unfold crL
  rw [crN_all L C kl _ _ (Nat.le_refl _) h i, List.take_length]
  by_cases e : (C i).isSome = true
  · rw [if_pos ((dirty_mem hb i).2 e)]
    obtain ⟨l, hl⟩ := Option.isSome_iff_exists.1 e
    unfold cur
    rw [hl]; rfl
  · rw [if_neg (fun hm => e ((dirty_mem hb i).1 hm))]
    unfold cur
    cases hc : C i with
    | none => rfl
    | some l => rw [hc] at e; exact absurd rfl e

/-- the cache behind a torn write -/
def tearC (Y m K : Nat) : Nat → Option (List Nat) := wrC (fun _ => none) 1 (many Y m) K
theorem tear_some (Y m K i : Nat) : (tearC Y m K i).isSome = decide (1 ≤ i ∧ i < 1 + K) := by
  unfold tearC wrC
  by_cases h : 1 ≤ i ∧ i < 1 + K
  · rw [if_pos h, decide_eq_true h]; rfl
  · rw [if_neg h, decide_eq_false h]; rfl
theorem tear_len (Y m K : Nat) (hK : K ≤ 6) : (dirtyL (tearC Y m K) 8).length = K := by
  have e : dirtyL (tearC Y m K) 8 = (List.range 8).filter (fun i => decide (1 ≤ i ∧ i < 1 + K)) := by
    unfold dirtyL
    congr 1
    funext i
    exact tear_some Y m K i
  rw [e]
  have : ∀ K, K < 7 → ((List.range 8).filter (fun i => decide (1 ≤ i ∧ i < 1 + K))).length = K := by decide
  exact this K (by omega)
theorem tear_cur {Y m K i : Nat} (hK : K ≤ m) (hi : i < m) : cur (fun _ => zeros) (tearC Y m K) (1 + i) = if i < K then List.replicate 64 Y else zeros := by
  unfold cur tearC wrC
  by_cases h : i < K
  · rw [if_pos h, if_pos ⟨by omega, by omega⟩, show 1 + i - 1 = i by omega, many_sec hi]; rfl
  · rw [if_neg h, if_neg (by omega)]; rfl

theorem kmod (a m : Int) (h1 : 1 ≤ m) (h2 : m ≤ 297) : ∃ K : Nat, wrap64 ((IntKind.u64.wrap a).tmod m) = K ∧ (K : Int) < m := by
  have h0 := wrap_u64_nonneg a
  rw [Int.tmod_eq_emod_of_nonneg h0]
  have h3 := Int.emod_nonneg (IntKind.u64.wrap a) (by omega : m ≠ 0)
  have h4 := Int.emod_lt_of_pos (IntKind.u64.wrap a) (by omega : 0 < m)
  generalize IntKind.u64.wrap a % m = q at *
  refine ⟨q.toNat, ?_, by omega⟩
  rw [IntWalk.wrap64_in _ (by omega)]
  omega
theorem one_more (A : Nat) (h : A < 300) : wrap64 (1 + (A : Int)) = ((A + 1 : Nat) : Int) := by rw [IntWalk.wrap64_in _ (by omega)]; omega

theorem tear_wr {K N : Nat} (h1 : 1 ≤ K) (h2 : K ≤ N) : wrK (K : Int) N = K ∧ wrOff (K : Int) N = true ∧ wrE (K : Int) N = 12 ∧ cutJ (K : Int) K = 0 := by
  have h : 0 < (K : Int) ∧ (K : Int) ≤ (N : Int) := by omega
  have hw : wrOff (K : Int) N = true := by unfold wrOff; exact decide_eq_true h
  refine ⟨by unfold wrK; rw [if_pos h]; omega, hw, by unfold wrE; rw [hw]; rfl, by unfold cutJ; rw [if_pos h.1]; omega⟩

/-- eight bools: k of them are set -/
def FillB (w : World) (g k : Nat) : Prop := ∃ cur : Array Value, w.heap[g]? = some (.cells cur 4 (0, 0)) ∧ cur.size = 8 ∧ ∀ j, j < 8 → cur[j]? = some (.bool (decide (j < k)))
theorem FillB.cell {w : World} {g k : Nat} (h : FillB w g k) {j : Nat} (hj : j < 8) : (w.cell? ⟨g, j, none⟩).isSome = true ∧ w.frozen? ⟨g, j, none⟩ = false := by
  obtain ⟨cur, h1, h2, h3⟩ := h
  refine ⟨by rw [Go.Joins.cell_of_block h1, h3 j hj]; rfl, by simp [World.frozen?, h1]⟩
theorem FillB.step {w : World} {g k : Nat} (h : FillB w g k) (hk : k < 8) : FillB (w.setCell ⟨g, k, none⟩ (.bool true)) g (k + 1) := by
  obtain ⟨cur, h1, h2, h3⟩ := h
  refine ⟨_, heap_set _ h1, by simp [h2], fun j hj => ?_⟩
  by_cases e : j = k
  · subst e
    rw [Array.getElem?_setIfInBounds_self_of_lt (by omega), decide_eq_true (by omega)]
  · rw [Array.getElem?_setIfInBounds_ne (fun e2 => e e2.symm), h3 j hj]
    by_cases h4 : j < k
    · rw [decide_eq_true h4, decide_eq_true (by omega)]
    · rw [decide_eq_false h4, decide_eq_false (by omega)]
theorem FillB.bools {w : World} {g : Nat} (h : FillB w g 8) : Bools w (some ⟨g, 0, none⟩) 8 (List.replicate 8 true) := by
  obtain ⟨cur, h1, h2, h3⟩ := h
  refine ⟨List.length_replicate, by omega, .inr ⟨g, 0, rfl, fun j hj => ?_⟩⟩
  rw [Go.Joins.cell_of_block h1, Nat.zero_add, h3 j hj, decide_eq_true hj, List.getD_eq_getElem?_getD, List.getElem?_replicate, if_pos hj]
  rfl
theorem info_bool : (Try.prog.info? 4).map (fun i => (i.zero, i.size, i.bytes)) = some (some (.bool false), 1, 1) := by kernel_rfl
theorem make_8 (w : World) : ∃ cs : Array Value, (Instr.makeSlice 43 (.int .i64 8) (.int .i64 8)).run Try.prog w = .ok (.slice (some ⟨w.heap.size, 0, none⟩) 8 8) (w.alloc (.cells cs 4)) ∧ FillB (w.alloc (.cells cs 4)) w.heap.size 0 := by
  obtain ⟨i, hi, hz0, hz1, hz2⟩ := info_parts info_bool
  have hr := run_make (P := Try.prog) w 43 4 i (.bool false) Try.underlying43 hi hz0 .i64 .i64 8 8 (by omega) (Int.le_refl _) (by rw [hz2]; omega) (by omega)
  refine ⟨_, hr, _, by rw [heap_alloc, if_pos rfl], ?_, fun j hj => ?_⟩
  · simp [madeCells, hz1]
  · have e : Int.toNat 8 * i.size = 8 := by rw [hz1]; rfl
    rw [e]
    unfold madeCells
    rw [Array.getElem?_eq_getElem (by simp; omega)]
    have e2 : (Value.bool false).cells = #[Value.bool false] := rfl
    simp [e2, Nat.mod_one]
theorem cells_any {w : World} {v : Value} {l : List Nat} (h : OwnB w v l) {w' : World} (hr : w.grownBy w' v.ownBlock) {w2 : World} (ho : Only (fun _ => False) w2 w) (hk : ∀ k, v.ownBlock = some k → w2.heap.size ≤ k) : Only (fun _ => False) w2 w' :=
  ho.then (Only.of_grown hr) (fun k hlt e => by have := hk k e; omega)
theorem app_gen {w w2 : World} {v v2 : Value} {l r : List Nat} (h : OwnB w v l) (hr : ∀ c ∈ r, c < 256) (hown : w2.ownsRow 0 5 1 v2 (l.length + r.length) (bv l ++ bv r)) (hm : (l ++ r).length ≤ maxLen) : OwnB w2 v2 (l ++ r) := by
  refine ⟨by rw [bv_append, List.length_append]; exact hown, fun c hc => ?_, hm⟩
  rcases List.mem_append.1 hc with h1 | h1
  · exact h.2.1 c h1
  · exact hr c h1

set_option maxRecDepth 100000 in
set_option maxHeartbeats 4000000 in
theorem tears_any (n cut : Int) (y : Nat) (hy : y < 256) (w : World) : Calls Try.prog 6 #[.int .i64 n, .int .i64 cut, .int .u8 (y : Int)] w fun e w' => e = .returned (.bool true) ∧ Only (fun _ => False) w w' := by
  obtain ⟨Y, hY, hor⟩ := or_one y hy
  obtain ⟨A, hA, hA6⟩ := kmod n 6 (by omega) (by omega)
  obtain ⟨N, hN, hN1, hN6⟩ : ∃ N : Nat, wrap64 (1 + (A : Int)) = (N : Int) ∧ 1 ≤ N ∧ N ≤ 6 := ⟨A + 1, one_more A (by omega), by omega, by omega⟩
  have hU : IntKind.u64.wrap (N : Int) = (N : Int) := by rw [IntKind.wrap_u64]; omega
  obtain ⟨B, hB, hBN⟩ := kmod cut N (by omega) (by omega)
  obtain ⟨K, hK, hK1, hKN⟩ : ∃ K : Nat, wrap64 (1 + (B : Int)) = (K : Int) ∧ 1 ≤ K ∧ K ≤ N := ⟨B + 1, one_more B (by omega), by omega, by omega⟩
  have HNW := Lib.hid (new_any 8 (by omega) (by omega) w)
  have HF : Hid (A < 6 ∧ B < N) := Lib.hid ⟨by omega, by omega⟩
  clear hA6 hBN
  go_enter Try.func6, Try.ntmps6
  go_wp2_with fail
  refine (HNW.out).mono ?_
  rintro e1 w1 ⟨p, bl, bm, rfl, hd1, ho1, hp, hbl, hbm⟩
  have HD1 := Lib.hid hd1
  have HO1 := Lib.hid ho1
  clear hd1 ho1 HNW
  go_wp2_with (go_at_call 13; refine (disks_any _).mono ?_; rintro _ w2 ⟨rfl, ho2⟩; have HO2 := Lib.hid ho2; clear ho2)
  obtain ⟨i0, hi, hz0, hz1, hz2⟩ := info_parts info_u8
  go_loopw [9, 10] (fun bv i wr => ∃ j : Nat, j ≤ N ∧ i = .int .i64 (j : Int) ∧ Hid (OwnB wr bv (many Y j)) ∧ Hid (∀ k, bv.ownBlock = some k → w2.heap.size ≤ k) ∧ Hid (Only (fun _ => False) w2 wr)) (fun _ i _ => N - (intOf i).toNat)
  case atStart => exact ⟨0, by omega, rfl, Lib.hid (by unfold many; rw [Nat.zero_mul]; exact OwnB.nil _), Lib.hid (fun k e => by cases e), Lib.hid (Only.refl _ _)⟩
  case round =>
    obtain ⟨j, hj, rfl, HB, HBK, HO⟩ := hrel
    by_cases h9 : j < N
    · have HSC := Lib.hid (sector_any Y hY wr)
      go_wp2_with fail
      refine (HSC.out).mono ?_
      rintro e4 w4 ⟨g4, cap4, rfl, hb4, ho4, hg4⟩
      have HB4 := Lib.hid hb4
      have HO4 := Lib.hid (HO.out.then ho4 (fun _ _ f => f))
      have HP := Lib.hid (HB.out.only ho4 (fun _ _ f => f))
      have hml := many_len Y j
      clear hb4 ho4 HSC
      go_wp2_with (at_builtin; refine append_mine rfl _ _ 26 rfl 5 i0 (.int .u8 0) 1 1 Try.underlying26 hi hz0 hz1 hz2 rfl (by decide) _ (many Y j).length _ rfl HP.out.1 ⟨g4, 0, none⟩ 64 cap4 (bv (List.replicate 64 Y)) rfl ?c1 ?c2 ?c3 ?c4 ?c5 ?_)
      case c1 => rw [bv_length, List.length_replicate]
      case c2 => exact OwnB.cells HB4.out rfl
      case c3 => exact bv_one _
      case c4 => rw [many_len]; unfold maxLen; omega
      case c5 => rw [many_len]; omega
      intro v5 w5 hown hgrow hkk
      have HB5 : Hid (OwnB w5 v5 (many Y (j + 1))) := Lib.hid (by
        have h := app_gen HP.out HB4.out.2.1 (by rw [many_len, List.length_replicate]; exact hown) (by rw [List.length_append, many_len, List.length_replicate]; unfold maxLen; omega)
        rw [many_succ] at h
        exact h)
      have HO5 := Lib.hid (cells_any HP.out hgrow HO4.out HBK.out)
      have hs4 := HO4.out.size
      have HK5 : Hid (∀ k, v5.ownBlock = some k → w2.heap.size ≤ k) := Lib.hid (fun k e => by
        rcases hkk k e with h | h
        · exact HBK.out k h
        · omega)
      clear hown hgrow hkk hml HB4 HP
      go_wp2_with fail
      go_roundw
      case rel => exact ⟨j + 1, by omega, by go_num, HB5, HK5, HO5⟩
      case measure => simp [intOf]; omega
    · obtain rfl : j = N := by omega
      obtain ⟨g5, cap5, rfl, hg5, hc5, hm5⟩ := HB.out.form (by intro e; have := congrArg List.length e; rw [many_len, List.length_nil] at this; omega)
      have hg52 : w2.heap.size ≤ g5 := HBK.out g5 rfl
      have HDr := Lib.hid ((HD1.out.only HO2.out (fun f => f) (fun f => f) (fun f => f)).only HO.out (fun f => f) (fun f => f) (fun f => f))
      have HOr := Lib.hid ((HO1.out.then HO2.out (fun _ _ f => f)).then HO.out (fun _ _ f => f))
      have hlt1 := HD1.out.lt
      have hs12 := HO2.out.size
      have HCT := Lib.hid (cut_any p bl bm 8 _ _ 0 false (K : Int) (by omega) wr HDr.out)
      have HM5 := Lib.hid hm5
      rw [many_len] at hc5 ⊢
      clear hm5
      go_wp2_with fail
      refine (HCT.out).mono ?_
      rintro e6 w6 ⟨rfl, hd6, ho6⟩
      have hna : ∀ x : Addr, some (⟨g5, 0, none⟩ : Addr) = some x → ¬ Dbl p bl bm x.block := by
        intro x hx hD
        injection hx with hx
        subst hx
        rcases hD with e | e | e <;> (have e : g5 = _ := e; omega)
      have HBr := HB.out.only ho6 (fun k e => by injection e with e; exact fun hD => hna _ rfl (by rw [e]; exact hD))
      obtain ⟨hk1, hk2, hk3, hk4⟩ := tear_wr hK1 hKN
      have hw := write_yes p bl bm 8 (fun _ => zeros) (fun _ => none) K 1 j (by omega) (some ⟨g5, 0, none⟩) cap5 (many Y j) w6 hd6 ⟨by have := HBr.reads rfl; rwa [many_len] at this, hc5, HM5.out, fun e => by cases e⟩ hna
      rw [hk1, hk2, hk3, hk4] at hw
      have HO6 := Lib.hid (HOr.out.then ho6 (fun k hk e => by rcases e with e | e | e <;> omega))
      have HW := Lib.hid hw
      clear hd6 ho6 hw hk1 hk2 hk3 hk4 hna HBr HCT
      go_wp2_with fail
      refine (HW.out).mono ?_
      rintro e7 w7 ⟨rfl, hd7, ho7⟩
      have HD7 : Hid (DskAt w7 p bl bm 8 (fun _ => zeros) (tearC Y j K) 0 true) := Lib.hid hd7
      have HO7 := Lib.hid (HO6.out.then ho7 (fun k hk e => by rcases e with e | e | e <;> omega))
      have HDY := Lib.hid (dirty_any p bl bm 8 _ _ _ _ w7 HD7.out)
      clear hd7 ho7 HW
      go_wp2_with fail
      refine (HDY.out).mono ?_
      rintro e8 w8 ⟨v8, rfl, hn8⟩
      obtain ⟨hrow, hnil, hbw⟩ := hn8
      obtain ⟨ad, cp, rfl⟩ : ∃ ad cp, v8 = .slice ad (dirtyL (tearC Y j K) 8).length cp := by
        rcases hrow.2 with ⟨hv, hz⟩ | ⟨g, cp, cu, hv, _⟩
        · exact ⟨none, 0, by rw [hv, hz]⟩
        · exact ⟨_, cp, hv⟩
      rw [tear_len Y j K (by omega)]
      have HD8 := Lib.hid (HD7.out.only (Only.of_below hbw) (fun f => f) (fun f => f) (fun f => f))
      have HO8 := Lib.hid (HO7.out.then (Only.of_below hbw) (fun _ _ f => f))
      clear hrow hnil hbw HDY
      obtain ⟨cs, hmk, hfb⟩ := make_8 w8
      have HF0 := Lib.hid hfb
      have HD9 := Lib.hid (HD8.out.only (S := fun _ => False) ((Only.refl _ w8).alloc (.cells cs 4)) (fun f => f) (fun f => f) (fun f => f))
      have HO9 := Lib.hid (HO8.out.alloc (.cells cs 4))
      have hg8 : w8.heap.size ≠ p ∧ w8.heap.size ≠ bl ∧ w8.heap.size ≠ bm ∧ w.heap.size ≤ w8.heap.size := by
        have := HD8.out.lt
        have := HO8.out.size
        omega
      clear hfb
      go_wp2_with fail
      generalize w8.alloc (.cells cs 4) = w9 at *
      clear hmk
      clear HB HBK HO HOr HDr HO6 HO7 HO8 HD7 HD8 HM5 hc5
      go_loopw [14] (fun i wr => ∃ k : Nat, k ≤ 8 ∧ i = .int .i64 (k : Int) ∧ Hid (FillB wr w8.heap.size k) ∧ Hid (DskAt wr p bl bm 8 (fun _ => zeros) (tearC Y j K) 0 true) ∧ Hid (Only (fun _ => False) w wr)) (fun i _ => 8 - (intOf i).toNat)
      case atStart => exact ⟨0, by omega, rfl, HF0, HD9, HO9⟩
      case round =>
        clear HF0 HD9 HO9
        obtain ⟨k, hk8, rfl, HFk, HDk, HOk⟩ := hrel
        by_cases h8 : k < 8
        · obtain ⟨u, hc⟩ := Option.isSome_iff_exists.1 (HFk.out.cell h8).1
          have hfz := (HFk.out.cell h8).2
          have HF2 := Lib.hid (HFk.out.step h8)
          have HD2 := Lib.hid (HDk.out.only (Only.set (fun q => q = w8.heap.size) _ w8.heap.size k (.bool true) rfl) (fun e => hg8.1 e.symm) (fun e => hg8.2.1 e.symm) (fun e => hg8.2.2.1 e.symm))
          have HO2 := Lib.hid (HOk.out.setCell (p := ⟨w8.heap.size, k, none⟩) (.inr hg8.2.2.2) (.bool true))
          go_wp2_with fail
          go_roundw
          case rel => exact ⟨k + 1, by omega, by go_num, HF2, HD2, HO2⟩
          case measure => simp [intOf]; omega
        · obtain rfl : k = 8 := by omega
          have hnc : ∀ x : Addr, some (⟨w8.heap.size, 0, none⟩ : Addr) = some x → ¬ Dbl p bl bm x.block := by
            intro x hx hD
            injection hx with hx
            subst hx
            rcases hD with e | e | e
            · exact hg8.1 e
            · exact hg8.2.1 e
            · exact hg8.2.2.1 e
          have HCR := Lib.hid (crash_any p bl bm 8 _ _ 0 true (some ⟨w8.heap.size, 0, none⟩) 8 8 (List.replicate 8 true) _ HDk.out HFk.out.bools hnc)
          clear hnc
          go_wp2_with fail
          refine (HCR.out).mono ?_
          rintro eA wA ⟨rfl, hdA, hoA⟩
          have HDA := Lib.hid hdA
          have HOA := Lib.hid (HOk.out.then hoA (fun k hk e => by rcases e with e | e | e <;> omega))
          have HLC : Hid (∀ i, i < j → cur (crL (fun _ => zeros) (tearC Y j K) (List.replicate 8 true) 8) (fun _ => none) (1 + i) = if i < K then List.replicate 64 Y else zeros) := Lib.hid (fun i hi => by
            show crL (fun _ => zeros) (tearC Y j K) (List.replicate 8 true) 8 (1 + i) = _
            rw [crL_all (fun i hi => by rw [tear_some, decide_eq_true_eq] at hi; omega) (fun q hq => by
              have := dirty_len (tearC Y j K) 8
              rw [List.getD_eq_getElem?_getD, List.getElem?_replicate, if_pos (by omega)]; rfl) (1 + i)]
            exact tear_cur hKN hi)
          clear hdA hoA HCR HFk HDk HOk
          go_wp2_with fail
          generalize crL (fun _ => zeros) (tearC Y j K) (List.replicate 8 true) 8 = LL at *
          go_loopw [15] (fun i wr => ∃ q : Nat, q ≤ j ∧ i = .int .i64 (q : Int) ∧ Hid (DskAt wr p bl bm 8 LL (fun _ => none) 0 false) ∧ Hid (Only (fun _ => False) w wr)) (fun i _ => j - (intOf i).toNat)
          case atStart => exact ⟨0, by omega, rfl, HDA, HOA⟩
          case round =>
            clear HDA HOA
            obtain ⟨q, hqj, rfl, HDq, HOq⟩ := hrel
            by_cases h7 : q < j
            · have hz : secs (cur LL (fun _ => none)) (1 + q) 1 = if q < K then List.replicate 64 Y else zeros := by
                rw [← HLC.out q h7]; simp [secs]
              have hrd := read_yes p bl bm 8 LL (fun _ => none) 0 (1 + q) 1 (by omega) wr HDq.out
              have hcc : ((1 + q : Nat) : Int) = 1 + (q : Int) := by omega
              rw [hz, hcc] at hrd
              by_cases hqK : q < K
              · rw [if_pos hqK] at hrd
                have HRD := Lib.hid hrd
                clear hz hrd hcc
                go_wp2_with fail
                refine (HRD.out).mono ?_
                rintro e3 w3 ⟨g3, cap3, rfl, hb3, ho3, hg3⟩
                have HB3 := Lib.hid hb3
                have HO3 := Lib.hid (HOq.out.then ho3 (fun _ _ f => f))
                have HD3 := Lib.hid (HDq.out.only ho3 (fun f => f) (fun f => f) (fun f => f))
                have HSC := Lib.hid (sector_any Y hY w3)
                clear hb3 ho3 HRD
                go_wp2_with fail
                refine (HSC.out).mono ?_
                rintro e4 w4 ⟨g4, cap4, rfl, hb4, ho4, hg4⟩
                have HO4 := Lib.hid (HO3.out.then ho4 (fun _ _ f => f))
                have HD4 := Lib.hid (HD3.out.only ho4 (fun f => f) (fun f => f) (fun f => f))
                have hcv1 := conv_reads ((HB3.out.only ho4 (fun _ _ f => f)).reads rfl) cap3
                have hcv2 := conv_reads (hb4.reads rfl) cap4
                rw [List.length_replicate] at hcv1 hcv2
                rw [List.length_replicate]
                generalize strN (List.replicate 64 Y) = Z at *
                clear hb4 ho4 HSC
                go_wp2_with fail
                exact ⟨⟨q + 1, by omega, by go_num, HD4, HO4⟩, by simp [intOf]; omega⟩
              · rw [if_neg hqK] at hrd
                have HRD := Lib.hid hrd
                clear hz hrd hcc
                go_wp2_with fail
                refine (HRD.out).mono ?_
                rintro e3 w3 ⟨g3, cap3, rfl, hb3, ho3, hg3⟩
                have HB3 := Lib.hid hb3
                have HO3 := Lib.hid (HOq.out.then ho3 (fun _ _ f => f))
                have HD3 := Lib.hid (HDq.out.only ho3 (fun f => f) (fun f => f) (fun f => f))
                have HSC := Lib.hid (sector_any Y hY w3)
                clear hb3 ho3 HRD
                go_wp2_with fail
                refine (HSC.out).mono ?_
                rintro e4 w4 ⟨g4, cap4, rfl, hb4, ho4, hg4⟩
                have HO4 := Lib.hid (HO3.out.then ho4 (fun _ _ f => f))
                have HD4 := Lib.hid (HD3.out.only ho4 (fun f => f) (fun f => f) (fun f => f))
                have HB4 := Lib.hid (HB3.out.only ho4 (fun _ _ f => f))
                have HS0 : Hid (Calls Try.prog 22 #[.int .u8 0] w4 (NewB w4 zeros)) := Lib.hid (sector_any 0 (by omega) w4)
                clear hb4 ho4 HSC HB3
                go_wp2_with fail
                refine (HS0.out).mono ?_
                rintro e5 w5 ⟨g6, cap6, rfl, hb5, ho5, hg6⟩
                have HO5 := Lib.hid (HO4.out.then ho5 (fun _ _ f => f))
                have HD5 := Lib.hid (HD4.out.only ho5 (fun f => f) (fun f => f) (fun f => f))
                have hcv1 := conv_reads ((HB4.out.only ho5 (fun _ _ f => f)).reads rfl) cap3
                have hcv2 := conv_reads (hb5.reads rfl) cap6
                generalize zeros = ZZ at *
                generalize strN ZZ = Z at *
                clear hb5 ho5 HS0
                go_wp2_with fail
                exact ⟨⟨q + 1, by omega, by go_num, HD5, HO5⟩, by simp [intOf]; omega⟩
            · obtain rfl : q = j := by omega
              go_wp2_with fail
              go_ret
              exact ⟨rfl, HOq.out⟩

theorem tears_walk (n cut : Int) (y : Nat) (hy : y < 256) (w : World) : Calls Try.prog 6 #[.int .i64 n, .int .i64 cut, .int .u8 (y : Int)] w fun e w' => e = .returned (.bool true) ∧ Below w.heap.size w w' := by
  refine (tears_any n cut y hy w).mono ?_
  rintro e w' ⟨h1, h2⟩
  exact ⟨h1, h2.none⟩
theorem tears_walk' (n cut y : Int) (hy : (Lit.int .u8 y).wf = true) (w : World) : Calls Try.prog 6 #[.int .i64 n, .int .i64 cut, .int .u8 y] w fun e w' => e = .returned (.bool true) ∧ Below w.heap.size w w' := by
  obtain ⟨h1, h2⟩ := byte_of_wf hy
  obtain ⟨b, rfl⟩ := Int.eq_ofNat_of_zero_le h1
  exact tears_walk n cut b (by omega) w
end Go.Proofs.Ytmkakpfbolpfcaa.dskw
