/- Lines: how many blocks, and what they cost: the document's; the law's few. -/
import Derived.Test.YtdfghdccbpnohaaTirJ
import Derived.Test.YtdfghdccbpnohaaLnsA
import Derived.Test.YtdfghdccbpnohaaTirE
import Derived.Test.YtdfghdccbpnohaaSumRT
namespace Go.Proofs.Ytdfghdccbpnohaa.tirw
open Go.RowKit mem tirm intm bigm bigw
set_option linter.unusedVariables false

/-- a row of ints of the call's own -/
def OwnI (w : World) (v : Value) (l : List Int) : Prop := w.ownsRow 0 3 1 v l.length (iv l)
theorem OwnI.nil (w : World) : OwnI w (.slice none 0 0) [] := World.ownsRow_nil _ _ _ _
theorem OwnI.only {S : Nat → Prop} {w w' : World} {v : Value} {ls : List Int} (h : OwnI w v ls) (ho : Only S w w') (hs : ∀ k, v.ownBlock = some k → ¬ S k) : OwnI w' v ls := owns_only ho h hs
theorem OwnI.reads {w : World} {v : Value} {l : List Int} (h : OwnI w v l) (hb : ∀ c ∈ l, InI c) (hm : l.length ≤ 1000000) : ∃ a cap, v = .slice a l.length cap ∧ ReadsI w a l.length l := by
  have h0 := h
  rcases h.2 with ⟨hv, hn⟩ | ⟨g, cap, cur, hv, hg, hh, hc, hmm, _⟩
  · exact ⟨none, 0, by rw [hv, hn], ⟨rfl, by unfold maxLen; omega, hb, .inl hn⟩⟩
  · refine ⟨some ⟨g, 0, none⟩, cap, hv, ?_⟩
    have h1 : w.ownsRow 0 3 1 (.slice (some ⟨g, 0, none⟩) l.length cap) l.length (iv l) := by rw [← hv]; exact h0
    exact ReadsI.of_owns h1 (by unfold maxLen; omega) hb
theorem iv_append (a b : List Int) : iv (a ++ b) = iv a ++ iv b := by simp [iv]
theorem news_int {W : World} {g : Nat} {x : Int} (hg : g = W.heap.size) (t : TypeId) : ∀ j u, (iv [x])[j]? = some u → (W.alloc (.cells #[.int .i64 x] t)).cell? ((Addr.mk g 0 none).add j) = some u := by
  intro j u hu
  rw [add_none, Nat.zero_add]
  exact alloc_new _ _ _ _ _ _ hg (by rw [← List.getElem?_toArray] at hu; exact hu)
theorem map_take_succ (ls : List Ln) (k : Nat) (h : k < ls.length) : (ls.take (k + 1)).map Ln.b = (ls.take k).map Ln.b ++ [(ls.getD k default).b] := by
  rw [List.take_succ_eq_append_getElem h, List.map_append]
  simp [List.getD, h]

set_option maxRecDepth 100000 in
set_option maxHeartbeats 1000000 in
theorem rblocks_any (a : Option Addr) (len cap : Nat) (ls : List Ln) (w : World) (h : ReadsN w a len ls) (hin : LnsI ls) (hlen : len ≤ 100000) :
    Calls Try.prog 10 #[.slice a len cap] w (BlocksAt ls w) := by
  obtain ⟨i0, hi, hz0, hz1, hz2⟩ := info_parts info_i64
  have H := Lib.hid h
  have HIN := Lib.hid hin
  have HL : Hid (ls.length = len) := Lib.hid h.1
  clear h hin
  go_enter Try.func10, Try.ntmps10
  go_wp2_with fail
  go_loopw [4, 5] (fun nv i wr => ∃ (k : Nat) (v : Value) (xs : List Int), k ≤ len ∧ i = .int .i64 k ∧ v = nv ∧ xs.length = k ∧ Hid (xs = (ls.take k).map Ln.b) ∧ Hid (OwnI wr v xs) ∧ Hid (∀ q, v.ownBlock = some q → w.heap.size ≤ q) ∧ Hid (Only (fun _ => False) w wr)) (fun _ i _ => len - (intOf i).toNat)
  case atStart => exact ⟨0, _, [], by omega, rfl, rfl, rfl, Lib.hid rfl, Lib.hid (OwnI.nil _), Lib.hid (fun q e => by cases e), Lib.hid (Only.refl _ _)⟩
  case round =>
    obtain ⟨k, v, xs, hk, rfl, rfl, hxl, HX, HOW, HBK, HO⟩ := hrel
    have HXL := Lib.hid hxl
    clear hxl
    by_cases h8 : k < len
    · obtain ⟨b, off, rfl, hcell⟩ := H.out.2.resolve_left (by omega)
      obtain ⟨_, hc1, _⟩ := hcell k h8
      have c1 := HO.out.cell' hc1 (fun f => f)
      have HXN : Hid (xs ++ [(ls.getD k default).b] = (ls.take (k + 1)).map Ln.b) := Lib.hid (by rw [HX.out, map_take_succ ls k (by rw [HL.out]; exact h8)])
      clear hcell hc1
      generalize (ls.getD k default).b = x at *
      have HOW2 : Hid ((wr.alloc (.cells #[.int .i64 x] 3)).ownsRow 0 3 1 v xs.length (iv xs)) := Lib.hid (owns_only (S := fun _ => False) ((Only.refl _ wr).alloc _) HOW.out (fun _ _ f => f))
      go_wp2_with (at_builtin; refine append_mine rfl _ _ 36 rfl 3 i0 _ 1 8 Try.underlying36 hi hz0 hz1 hz2 rfl (by decide) _ xs.length _ rfl HOW2.out ⟨wr.heap.size, 0, none⟩ 1 1 (iv [x]) rfl ?c1 ?c2 ?c3 ?c4 ?c5 ?_)
      case c1 => rfl
      case c2 => exact news_int rfl _
      case c3 => exact iv_one [x]
      case c4 => have := HXL.out; unfold maxLen; omega
      case c5 => have := HXL.out; omega
      intro v2 w2 hown hgrow hkk
      have HON : Hid (OwnI w2 v2 (xs ++ [x])) := Lib.hid (by unfold OwnI; rw [List.length_append, iv_append]; exact hown)
      have HBK2 : Hid (∀ q, v2.ownBlock = some q → w.heap.size ≤ q) := Lib.hid (fun q hq => by
        rcases hkk q hq with e | e
        · exact HBK.out q e
        · have := HO.out.size
          omega)
      have HO2 : Hid (Only (fun _ => False) w w2) := Lib.hid ((HO.out.alloc _).then (Only.of_grown hgrow) (fun q hq e => by have := HBK.out q e; omega))
      clear hown hgrow hkk HOW2
      go_wp2_with fail
      go_roundw
      case rel => exact ⟨k + 1, v2, xs ++ [x], by omega, by go_num, rfl, by rw [List.length_append, HXL.out]; rfl, HXN, HON, HBK2, HO2⟩
      case measure => simp [intOf]; omega
    · obtain rfl : k = len := by omega
      have hx := HX.out
      rw [List.take_of_length_le (by rw [HL.out]; omega)] at hx
      have hxi : ∀ c ∈ xs, InI c := by
        rw [hx]
        intro c hc
        obtain ⟨y, hy, rfl⟩ := List.mem_map.1 hc
        exact (HIN.out y hy).2.1
      obtain ⟨av, cv, rfl, hrd⟩ := OwnI.reads HOW.out hxi (by have := HXL.out; omega)
      have HRS := Lib.hid (rsum_any av xs.length cv xs wr hrd)
      rw [hx, ← sumB_map, ← hx] at HRS
      have HF : Hid (∀ w', Only (fun _ => False) wr w' → BlocksAt ls w (.returned (.tuple #[.int .i64 (intOr (sumB ls)), .bool (isInt (sumB ls))])) w') := Lib.hid (fun w' ho => ⟨rfl, HO.out.trans ho⟩)
      clear hx hxi hrd HX HOW HBK
      generalize intOr (sumB ls) = q1 at *
      generalize isInt (sumB ls) = q2 at *
      generalize xs.length = q3 at *
      go_wp2_with fail
      refine HRS.out.mono ?_
      rintro _ w2 ⟨rfl, h2⟩
      have HFF := Lib.hid (HF.out _ h2)
      clear h2
      go_wp2_with fail
      go_ret2
      exact HFF.out
end Go.Proofs.Ytdfghdccbpnohaa.tirw
