/- The document's disk: there, List. -/
import Derived.Test.YtodmfljhojdbkaaDdA
import Derived.Test.YtodmfljhojdbkaaOwI
namespace Go.Proofs.Ytodmfljhojdbkaa.dskw
open Go.RowKit mem
set_option linter.unusedVariables false

def thr (n : Nat) (f m : Int) : Bool := decide (0 ≤ f) && (decide (0 ≤ m) && (decide (f ≤ (n : Int)) && decide (m ≤ (n : Int) - f)))
theorem there_any (q bL bN bD n cL cN cD : Nat) (La No : Nat → List Nat) (Di : Nat → Bool) (armed : Int) (off : Bool) (f m : Int) (w : World) (h : DdAt w q bL bN bD n cL cN cD La No Di armed off) :
    Calls Try.prog 22 #[.pointer (some ⟨q, 0, none⟩), .int .i64 f, .int .i64 m] w fun e w' => e = .returned (.bool (thr n f m)) ∧ w = w' := by
  have c1 := h.c1
  have h7 := h.h7
  clear h
  by_cases h1 : 0 ≤ f
  · by_cases h2 : 0 ≤ m
    · by_cases h3 : f ≤ (n : Int)
      · have hw : wrap64 ((n : Int) - f) = (n : Int) - f := by unfold wrap64; omega
        by_cases h4 : m ≤ (n : Int) - f
        · have e : thr n f m = true := by unfold thr; simp [h1, h2, h3, h4]
          rw [e]
          go_enter Try.func22, Try.ntmps22
          go_wp2_with fail
          go_ret
          exact ⟨rfl, rfl⟩
        · have e : thr n f m = false := by unfold thr; simp [h1, h2, h3, h4]
          rw [e]
          go_enter Try.func22, Try.ntmps22
          go_wp2_with fail
          go_ret
          exact ⟨rfl, rfl⟩
      · have e : thr n f m = false := by unfold thr; simp [h1, h2, h3]
        have g3 : ¬ f ≤ (n : Int) := h3
        rw [e]
        go_enter Try.func22, Try.ntmps22
        go_wp2_with fail
        go_ret
        exact ⟨rfl, rfl⟩
    · have e : thr n f m = false := by unfold thr; simp [h1, h2]
      rw [e]
      go_enter Try.func22, Try.ntmps22
      go_wp2_with fail
      go_ret
      exact ⟨rfl, rfl⟩
  · have e : thr n f m = false := by unfold thr; simp [h1]
    rw [e]
    go_enter Try.func22, Try.ntmps22
    go_wp2_with fail
    go_ret
    exact ⟨rfl, rfl⟩

/-- the numbers below k that are in the document's cache -/
def lisD (Di : Nat → Bool) (k : Nat) : List Int := ((List.range k).filter Di).map (fun i : Nat => (i : Int))
theorem lisD_succ (Di : Nat → Bool) (k : Nat) : lisD Di (k + 1) = lisD Di k ++ (if Di k then [(k : Int)] else []) := by
  unfold lisD
  rw [List.range_succ, List.filter_append, List.map_append]
  congr 1
  by_cases e : Di k = true
  · rw [if_pos e]; simp [e]
  · rw [if_neg e]; simp [e]
theorem lisD_len (Di : Nat → Bool) (k : Nat) : (lisD Di k).length ≤ k := by
  unfold lisD
  rw [List.length_map]
  have := List.length_filter_le Di (List.range k)
  rw [List.length_range] at this
  exact this
theorem info_i64D : (Try.prog.info? 3).map (fun i => (i.zero, i.size, i.bytes)) = some (some (.int .i64 0), 1, 8) := by kernel_rfl
theorem info_partsD {o : Option TypeInfo} {z : Value} {a b : Nat} (h : o.map (fun i => (i.zero, i.size, i.bytes)) = some (some z, a, b)) : ∃ i, o = some i ∧ i.zero = some z ∧ i.size = a ∧ i.bytes = b := by
  cases o with
  | none => cases h
  | some i =>
    simp only [Option.map_some, Option.some.injEq, Prod.mk.injEq] at h
    exact ⟨i, rfl, h.1, h.2.1, h.2.2⟩
set_option maxRecDepth 100000 in
set_option maxHeartbeats 4000000 in
theorem list_any (q bL bN bD n cL cN cD : Nat) (La No : Nat → List Nat) (Di : Nat → Bool) (armed : Int) (off : Bool) (w : World) (h : DdAt w q bL bN bD n cL cN cD La No Di armed off) :
    Calls Try.prog 20 #[.pointer (some ⟨q, 0, none⟩)] w fun e w' => ∃ v, e = .returned v ∧ owi.OwnI w' v (lisD Di n) ∧ (∀ k, v.ownBlock = some k → w.heap.size ≤ k) ∧ Only (fun _ => False) w w' := by
  obtain ⟨i0, hi, hz0, hz1, hz2⟩ := info_partsD info_i64D
  have HD : Hid (∀ w', Only (fun _ => False) w w' → DdAt w' q bL bN bD n cL cN cD La No Di armed off) := Lib.hid (fun w' ho => h.quiet ho)
  have h7 := h.h7
  clear h
  go_enter Try.func20, Try.ntmps20
  go_wp2_with fail
  go_loopw [4, 3] (fun iv ov wx => ∃ (k : Nat) (vo : Value), k ≤ n ∧ iv = .int .i64 (k : Int) ∧ vo = ov ∧ Hid (owi.OwnI wx vo (lisD Di k)) ∧ Hid (∀ j, vo.ownBlock = some j → w.heap.size ≤ j) ∧ Hid (Only (fun _ => False) w wx)) (fun iv _ _ => n - (intOf iv).toNat)
  case atStart => exact ⟨0, _, by omega, rfl, rfl, Lib.hid (owi.OwnI.nil _), Lib.hid (fun j e => by cases e), Lib.hid (Only.refl _ _)⟩
  case round =>
    obtain ⟨k, vo, hk, rfl, rfl, HO, HB, HX⟩ := hrel
    rename World => wx
    have c2 := (HD.out wx HX.out).c2
    by_cases h8 : k < n
    · have hin : (k : Int) < (n : Int) := by omega
      have hk0 : (0 : Int) ≤ (k : Int) := by omega
      have y0 := ((HD.out wx HX.out).rD k h8).1
      have HLS := Lib.hid (lisD_succ Di k)
      have HLL := Lib.hid (lisD_len Di k)
      obtain ⟨b, hb⟩ : ∃ x, Di k = x := ⟨_, rfl⟩
      rw [hb] at y0 HLS
      clear hb
      cases b
      · have HO2 : Hid (owi.OwnI wx vo (lisD Di (k + 1))) := Lib.hid (by rw [HLS.out]; simpa using HO.out)
        clear HLS HLL HO
        go_wp2_with fail
        go_roundw
        case rel => exact ⟨k + 1, _, by omega, by go_num, rfl, HO2, HB, HX⟩
        case measure => (simp [intOf]; omega)
      · obtain ⟨A, hA⟩ : ∃ x, x = lisD Di k := ⟨_, rfl⟩
        have HL2 : Hid (lisD Di (k + 1) = A ++ [(k : Int)]) := Lib.hid (by rw [HLS.out, hA]; rfl)
        rw [← hA] at HO HLL
        have hAl := HLL.out
        clear hA HLS HLL
        have HP : Hid ((wx.alloc (.cells #[.int .i64 (k : Int)] 3)).ownsRow 0 3 1 vo A.length (iv A)) := Lib.hid (owns_only (S := fun _ => False) ((Only.refl _ wx).alloc _) HO.out (fun _ _ f => f))
        go_wp2_with (at_builtin; refine append_mine rfl _ _ 49 rfl 3 i0 _ 1 8 Try.underlying49 hi hz0 hz1 hz2 rfl (by decide) _ A.length (iv A) rfl HP.out ⟨wx.heap.size, 0, none⟩ 1 1 (iv [(k : Int)]) rfl ?f1 ?f2 ?f3 ?f4 ?f5 ?_)
        case f1 => rfl
        case f2 => exact owi.news_int rfl _
        case f3 => exact owi.iv_ones _
        case f4 => unfold maxLen; omega
        case f5 => omega
        intro v1 w1 hown hgrow hkk
        obtain ⟨g1, k1, rfl, -⟩ := owns_form hown (by omega)
        have HO2 : Hid (owi.OwnI w1 (.slice (some ⟨g1, 0, none⟩) (A.length + 1) k1) (lisD Di (k + 1))) := Lib.hid (by
          rw [HL2.out]
          unfold owi.OwnI
          rw [List.length_append, owi.iv_append]
          exact hown)
        have HB2 : Hid (∀ j, (Value.slice (some ⟨g1, 0, none⟩) (A.length + 1) k1).ownBlock = some j → w.heap.size ≤ j) := Lib.hid (fun j hj => by
          rcases hkk j hj with e | e
          · exact HB.out j e
          · have := HX.out.size; omega)
        have HX2 : Hid (Only (fun _ => False) w w1) := Lib.hid (HX.out.then ((((Only.refl (fun _ => False) wx).alloc _).mono (fun _ _ f => f.elim)).trans (Only.of_grown hgrow)) (fun j hj e => by have := HB.out j e; omega))
        clear hown hgrow hkk HP HO HB HX y0 c2
        go_wp2_with fail
        go_roundw
        case rel => exact ⟨k + 1, _, by omega, by go_num, rfl, HO2, HB2, HX2⟩
        case measure => (simp [intOf]; omega)
    · have hin : ¬ (k : Int) < (n : Int) := by omega
      obtain rfl : n = k := by omega
      obtain ⟨HO', HB', HX'⟩ := (⟨HO, HB, HX⟩ : _ ∧ _ ∧ _)
      go_wp2_with fail
      go_ret
      exact ⟨_, rfl, HO'.out, HB'.out, HX'.out⟩
end Go.Proofs.Ytodmfljhojdbkaa.dskw
