/- Grants: the document's Settle; what is held together, the program's and the document's. -/
import Derived.Test.YtghajamcjcflaaaGrD
import Derived.Test.YtghajamcjcflaaaRatRr
namespace Go.Proofs.Ytghajamcjcflaaa.tirw
open Go.RowKit mem tirm intm bigm bigw
set_option linter.unusedVariables false

/-- a settling's answer, in one form -/
theorem set_uni {er k c p l : Int} {L : List Ln} {w w' : World} {e : Ending} (h : SetAt er L k c p l w e w') : ∃ a cap, e = .returned (.tuple #[.agg #[.slice a (if er = 0 then L else []).length cap, .int .i64 (if er = 0 then k else 0), .int .i64 (if er = 0 then c else 0), .int .i64 (if er = 0 then p else 0)], .int .i64 (if er = 0 then l else 0), .int .i64 er]) ∧ ReadsN w' a (if er = 0 then L else []).length (if er = 0 then L else []) ∧ Only (fun _ => False) w w' := by
  unfold SetAt at h
  by_cases he : er = 0
  · rw [if_pos he] at h
    obtain ⟨a, cap, h1, h2, h3⟩ := h
    simp only [if_pos he]
    subst he
    exact ⟨a, cap, h1, h2, h3⟩
  · rw [if_neg he] at h
    simp only [if_neg he]
    exact ⟨none, 0, h.1, ⟨rfl, .inl rfl⟩, h.2⟩

instance : Inhabited Gr := ⟨Gr0⟩
/-- grants in memory -/
def ReadsG (w : World) (a : Option Addr) (len : Nat) (gs : List Gr) : Prop :=
  gs.length = len ∧ (len = 0 ∨ ∃ b off, a = some ⟨b, off, none⟩ ∧ ∀ i, i < len → w.cell? ⟨b, off + i * 4, none⟩ = some (.int .i64 (gs.getD i default).g) ∧ w.cell? ⟨b, off + i * 4 + 1, none⟩ = some (.int .i64 (gs.getD i default).u) ∧ w.cell? ⟨b, off + i * 4 + 2, none⟩ = some (.int .i64 (gs.getD i default).a) ∧ w.cell? ⟨b, off + i * 4 + 3, none⟩ = some (.bool (gs.getD i default).f))
theorem ReadsG.only {S : Nat → Prop} {w w' : World} {a : Option Addr} {len : Nat} {gs : List Gr} (h : ReadsG w a len gs) (ho : Only S w w') (hs : ∀ x, a = some x → ¬ S x.block) : ReadsG w' a len gs := by
  obtain ⟨hl, hc⟩ := h
  refine ⟨hl, ?_⟩
  rcases hc with h0 | ⟨b, off, ha, hcell⟩
  · exact .inl h0
  · have hn : ¬ S b := hs _ ha
    refine .inr ⟨b, off, ha, fun i hi => ?_⟩
    obtain ⟨c0, c1, c2, c3⟩ := hcell i hi
    exact ⟨ho.cell' c0 hn, ho.cell' c1 hn, ho.cell' c2 hn, ho.cell' c3 hn⟩
theorem getG_mem (ls : List Gr) (k : Nat) (h : k < ls.length) : ls.getD k default ∈ ls := by
  have : ls.getD k default = ls[k] := by simp [List.getD, h]
  rw [this]; exact List.getElem_mem h
theorem range_mapG {β : Type} (f : Gr → β) (ls : List Gr) : (List.range ls.length).map (fun j => f (ls.getD j default)) = ls.map f := by
  apply List.ext_getElem
  · simp
  · intro i h1 h2
    simp at h1
    simp [List.getD, h1]
theorem mapG_take_succ (ls : List Gr) (k : Nat) (h : k < ls.length) : (ls.take (k + 1)).map Gr.a = (ls.take k).map Gr.a ++ [(ls.getD k default).a] := by
  rw [List.take_succ_eq_append_getElem h, List.map_append]
  simp [List.getD, h]
set_option maxRecDepth 100000 in
set_option maxHeartbeats 1000000 in
theorem held_any (a : Option Addr) (len cap : Nat) (gs : List Gr) (w : World) (h : ReadsG w a len gs) (hin : ∀ x ∈ gs, InI x.a) (hlen : len ≤ 1000) :
    Calls Try.prog 20 #[.slice a len cap] w fun e w' => e = .returned (.int .i64 (intOr (gs.map Gr.a).sum)) ∧ Only (fun _ => False) w w' := by
  have hmk := run_make_row' (P := Try.prog) 31 3 (.int .i64 0) 8 Try.underlying31 info_i64 rfl .i64 .i64 len (by omega) (by omega)
  have H := Lib.hid h
  have HIN := Lib.hid hin
  have HL : Hid (gs.length = len) := Lib.hid h.1
  have HM := Lib.hid (made_row w len)
  obtain ⟨P, hP⟩ : ∃ P, intOr (gs.map Gr.a).sum = P := ⟨_, rfl⟩
  rw [hP]
  have HPP := Lib.hid hP
  clear h hin hP
  go_enter Try.func20, Try.ntmps20
  go_wp2_with fail
  clear hmk
  go_loopw [13] (fun i wr => ∃ k : Nat, k ≤ len ∧ i = .int .i64 k ∧ Hid (RowI wr w.heap.size len (mixf (fun j => (gs.getD j default).a) (fun _ => 0) k)) ∧ Hid (Only (fun _ => False) w wr)) (fun i _ => len - (intOf i).toNat)
  case atStart => exact ⟨0, by omega, rfl, Lib.hid HM.out.start, Lib.hid ((Only.refl _ w).alloc _)⟩
  case round =>
    obtain ⟨k, hk, rfl, HRW, HO⟩ := hrel
    by_cases h8 : k < len
    · obtain ⟨b, off, rfl, hcell⟩ := H.out.2.resolve_left (by omega)
      obtain ⟨hc0, hc1, hc2, hc3⟩ := hcell k h8
      have c0 := HO.out.cell' hc0 (fun f => f)
      have c1 := HO.out.cell' hc1 (fun f => f)
      have c2 := HO.out.cell' hc2 (fun f => f)
      have c3 := HO.out.cell' hc3 (fun f => f)
      clear hcell hc0 hc1 hc2 hc3
      have HN := Lib.hid (fun o => (HRW.out.only (S := fun _ => False) ((Only.refl _ wr).alloc o) (fun f => f)).next h8)
      have HW := Lib.hid (fun o v => (HO.out.alloc o).setCell (p := ⟨w.heap.size, k, none⟩) (.inr (Nat.le_refl _)) v)
      have HC := Lib.hid (fun o => (HRW.out.only (S := fun _ => False) ((Only.refl _ wr).alloc o) (fun f => f)) k h8)
      generalize gs.getD k default = x at *
      obtain ⟨xg, xu, xa, xf⟩ := x
      dsimp only at c0 c1 c2 c3 HN
      have q := HC.out (.cells #[.int .i64 xg, .int .i64 xu, .int .i64 xa, .bool xf] 50)
      obtain ⟨q0, z0⟩ := q
      go_wp2_with fail
      go_roundw
      case rel => exact ⟨k + 1, by omega, by go_num, Lib.hid (HN.out _), Lib.hid (HW.out _ _)⟩
      case measure => simp [intOf]; omega
    · obtain rfl : k = len := by omega
      have hr := HRW.out.whole.reads (by unfold maxLen; omega) (fun j hj => HIN.out _ (getG_mem gs j (by rw [HL.out]; exact hj)))
      have e : (List.range k).map (fun j => (gs.getD j default).a) = gs.map Gr.a := by rw [← HL.out]; exact range_mapG Gr.a gs
      rw [e] at hr
      have HR := Lib.hid hr
      clear hr e
      go_wp2_with fail
      refine (asum_any _ _ _ (gs.map Gr.a) _ HR.out).mono ?_
      rintro _ _ ⟨rfl, rfl⟩
      rw [HPP.out]
      generalize isInt (gs.map Gr.a).sum = q2 at *
      go_wp2_with fail
      go_ret
      exact ⟨rfl, HO.out⟩
set_option maxRecDepth 100000 in
set_option maxHeartbeats 1000000 in
theorem rheld_any (a : Option Addr) (len cap : Nat) (gs : List Gr) (w : World) (h : ReadsG w a len gs) (hin : ∀ x ∈ gs, InI x.a) (hlen : len ≤ 1000) :
    Calls Try.prog 21 #[.slice a len cap] w fun e w' => e = .returned (.int .i64 (intOr (gs.map Gr.a).sum)) ∧ Only (fun _ => False) w w' := by
  obtain ⟨i0, hi, hz0, hz1, hz2⟩ := info_parts info_i64
  have H := Lib.hid h
  have HIN := Lib.hid hin
  have HL : Hid (gs.length = len) := Lib.hid h.1
  obtain ⟨P, hP⟩ : ∃ P, intOr (gs.map Gr.a).sum = P := ⟨_, rfl⟩
  rw [hP]
  have HPP := Lib.hid hP
  clear h hin hP
  go_enter Try.func21, Try.ntmps21
  go_wp2_with fail
  go_loopw [3, 4] (fun nv i wr => ∃ (k : Nat) (v : Value) (xs : List Int), k ≤ len ∧ i = .int .i64 k ∧ v = nv ∧ xs.length = k ∧ Hid (xs = (gs.take k).map Gr.a) ∧ Hid (OwnI wr v xs) ∧ Hid (∀ q, v.ownBlock = some q → w.heap.size ≤ q) ∧ Hid (Only (fun _ => False) w wr)) (fun _ i _ => len - (intOf i).toNat)
  case atStart => exact ⟨0, _, [], by omega, rfl, rfl, rfl, Lib.hid rfl, Lib.hid (OwnI.nil _), Lib.hid (fun q e => by cases e), Lib.hid (Only.refl _ _)⟩
  case round =>
    obtain ⟨k, v, xs, hk, rfl, rfl, hxl, HX, HOW, HBK, HO⟩ := hrel
    have HXL := Lib.hid hxl
    clear hxl
    by_cases h8 : k < len
    · obtain ⟨b, off, rfl, hcell⟩ := H.out.2.resolve_left (by omega)
      obtain ⟨_, _, hc1, _⟩ := hcell k h8
      have c1 := HO.out.cell' hc1 (fun f => f)
      have HXN : Hid (xs ++ [(gs.getD k default).a] = (gs.take (k + 1)).map Gr.a) := Lib.hid (by rw [HX.out, mapG_take_succ gs k (by rw [HL.out]; exact h8)])
      clear hcell hc1
      generalize (gs.getD k default).a = x at *
      have HOW2 : Hid ((wr.alloc (.cells #[.int .i64 x] 3)).ownsRow 0 3 1 v xs.length (iv xs)) := Lib.hid (owns_only (S := fun _ => False) ((Only.refl _ wr).alloc _) HOW.out (fun _ _ f => f))
      go_wp2_with (at_builtin; refine append_mine rfl _ _ 31 rfl 3 i0 _ 1 8 Try.underlying31 hi hz0 hz1 hz2 rfl (by decide) _ xs.length _ rfl HOW2.out ⟨wr.heap.size, 0, none⟩ 1 1 (iv [x]) rfl ?c1 ?c2 ?c3 ?c4 ?c5 ?_)
      case c1 => rfl
      case c2 => exact news_int rfl _
      case c3 => exact iv_one [x]
      case c4 => have := HXL.out; unfold maxLen; omega
      case c5 => have := HXL.out; omega
      intro v2 w2 hown hgrow hkk
      have HON : Hid (OwnI w2 v2 (xs ++ [x])) := Lib.hid (by unfold OwnI; rw [List.length_append, iv_append]; exact hown)
      have HBK2 : Hid (∀ q, v2.ownBlock = some q → w.heap.size ≤ q) := Lib.hid (fun q hq => by
        rcases hkk q hq with e | e
        · exact HBK.out q e
        · have := HO.out.size
          omega)
      have HO2 : Hid (Only (fun _ => False) w w2) := Lib.hid ((HO.out.alloc _).then (Only.of_grown hgrow) (fun q hq e => by have := HBK.out q e; omega))
      clear hown hgrow hkk HOW2
      go_wp2_with fail
      go_roundw
      case rel => exact ⟨k + 1, v2, xs ++ [x], by omega, by go_num, rfl, by rw [List.length_append, HXL.out]; rfl, HXN, HON, HBK2, HO2⟩
      case measure => simp [intOf]; omega
    · obtain rfl : k = len := by omega
      have hx := HX.out
      rw [List.take_of_length_le (by rw [HL.out]; omega)] at hx
      have hxi : ∀ c ∈ xs, InI c := by
        rw [hx]
        intro c hc
        obtain ⟨y, hy, rfl⟩ := List.mem_map.1 hc
        exact HIN.out y hy
      obtain ⟨av, cv, rfl, hrd⟩ := OwnI.reads HOW.out hxi (by have := HXL.out; omega)
      have HRS := Lib.hid (rsum_any av xs.length cv xs wr hrd)
      rw [hx, ← hx] at HRS
      have HSM : Hid (xs.sum = (gs.map Gr.a).sum) := Lib.hid (by rw [hx])
      rw [HSM.out, HPP.out] at HRS
      clear hx hxi hrd HX HOW HBK
      generalize isInt (gs.map Gr.a).sum = q2 at *
      generalize xs.length = q3 at *
      go_wp2_with fail
      refine HRS.out.mono ?_
      rintro _ w2 ⟨rfl, h2⟩
      have H2 := Lib.hid (HO.out.trans h2)
      clear h2
      go_wp2_with fail
      go_ret
      exact ⟨rfl, H2.out⟩
end Go.Proofs.Ytghajamcjcflaaa.tirw
