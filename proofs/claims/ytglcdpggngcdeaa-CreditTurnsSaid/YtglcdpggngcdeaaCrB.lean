/- A table of sessions without grants: isSession, clone, Ids, Add, End. -/
import Derived.Test.YtglcdpggngcdeaaCrA
namespace Go.Proofs.Ytglcdpggngcdeaa.crd
open Go.RowKit mem rowz owi
set_option linter.unusedVariables false

theorem sbox {w : World} {i nd : Int} {x4 : Value} {w1 : World} {g : Nat} (hw : w1 = w.alloc (.cells #[.int .i64 i, .int .i64 nd, .int .i64 0, .int .i64 0, x4] 25)) (hg : g = w.heap.size) : w1.cell? ⟨g, 0, none⟩ = some (.int .i64 i) ∧ w1.cell? ⟨g, 1, none⟩ = some (.int .i64 nd) ∧ w1.cell? ⟨g, 2, none⟩ = some (.int .i64 0) ∧ w1.cell? ⟨g, 3, none⟩ = some (.int .i64 0) ∧ w1.cell? ⟨g, 4, none⟩ = some x4 ∧ Only (fun _ => False) w w1 := by
  subst hw hg
  have h : ∀ k u, (#[.int .i64 i, .int .i64 nd, .int .i64 0, .int .i64 0, x4] : Array Value)[k]? = some u → (w.alloc (.cells #[.int .i64 i, .int .i64 nd, .int .i64 0, .int .i64 0, x4] 25)).cell? ⟨w.heap.size, k, none⟩ = some u := fun k u hu => by
    rw [Go.Joins.cell_of_block (cs := #[.int .i64 i, .int .i64 nd, .int .i64 0, .int .i64 0, x4]) (t := 25) (fr := (0, 0)) (by rw [heap_alloc, if_pos rfl])]; exact hu
  exact ⟨h 0 _ rfl, h 1 _ rfl, h 2 _ rfl, h 3 _ rfl, h 4 _ rfl, (Only.refl _ w).alloc _⟩
theorem issess_any (i nd : Int) (w : World) (h1 : 1 ≤ i) (h2 : i ≤ 4611686018427387904) (h3 : 1 ≤ nd) (h4 : nd ≤ 32) : Calls Try.prog 50 #[.agg #[.int .i64 i, .int .i64 nd, .int .i64 0, .int .i64 0, .slice none 0 0]] w fun e w' => e = .returned (.bool true) ∧ Only (fun _ => False) w w' := by
  obtain ⟨w1, hw⟩ : ∃ x, x = w.alloc (.cells #[.int .i64 i, .int .i64 nd, .int .i64 0, .int .i64 0, .slice none 0 0] 25) := ⟨_, rfl⟩
  obtain ⟨g, hg⟩ : ∃ x, x = w.heap.size := ⟨_, rfl⟩
  obtain ⟨c0, c1, c2, c3, c4, ho⟩ := sbox hw hg
  have HO := Lib.hid ho
  clear ho
  go_enter Try.func50, Try.ntmps50
  go_upto_region 1 with fail
  simp only [← hw, ← hg]
  clear hw hg
  go_wp2_with fail
  refine (isnum_any _ _ (by omega) h2).mono ?_
  rintro _ _ ⟨rfl, rfl⟩
  go_wp2_with fail
  refine (isnum_any 0 _ (by omega) (by omega)).mono ?_
  rintro _ _ ⟨rfl, rfl⟩
  go_wp2_with fail
  refine (isnum_any 0 _ (by omega) (by omega)).mono ?_
  rintro _ _ ⟨rfl, rfl⟩
  go_wp2_with fail
  refine (aregr_nil _).mono ?_
  rintro _ w2 ⟨rfl, ho⟩
  have HO2 := Lib.hid (HO.out.trans ho)
  clear ho
  go_wp2_with fail
  go_ret
  exact ⟨rfl, HO2.out⟩
set_option maxRecDepth 100000 in
theorem sclone_any (i nd : Int) (w : World) : Calls Try.prog 46 #[.agg #[.int .i64 i, .int .i64 nd, .int .i64 0, .int .i64 0, .slice none 0 0]] w fun e w' => e = .returned (.agg #[.int .i64 i, .int .i64 nd, .int .i64 0, .int .i64 0, .slice none 0 0]) ∧ Only (fun _ => False) w w' := by
  have HO : Hid (∀ o o2, Only (fun _ => False) w ((w.alloc o).alloc o2)) := Lib.hid (fun o o2 => ((Only.refl _ w).alloc o).alloc o2)
  have HB2 : Hid (∀ (w0 : World), _) := Lib.hid (fun (w0 : World) => sbox (w := w0) (i := i) (nd := nd) (x4 := .slice none 0 0) (w1 := w0.alloc (.cells #[.int .i64 i, .int .i64 nd, .int .i64 0, .int .i64 0, .slice none 0 0] 25)) (g := w0.heap.size) rfl rfl)
  obtain ⟨b0, b1, b2, b3, b4, -⟩ := HB2.out w
  go_enter Try.func46, Try.ntmps46
  go_wp2_with fail
  refine (gclone_nil _).mono ?_
  rintro _ _ ⟨rfl, rfl⟩
  go_wp2_with fail
  obtain ⟨x0, x1, x2, x3, x4, -⟩ := sbox (w := w.alloc (.cells #[.int .i64 i, .int .i64 nd, .int .i64 0, .int .i64 0, .slice none 0 0] 25)) (i := i) (nd := nd) (x4 := .slice none 0 0) (g := w.heap.size + 1) rfl (by simp)
  refine bodyPost_ret (v := .agg #[.int .i64 i, .int .i64 nd, .int .i64 0, .int .i64 0, .slice none 0 0]) (by simp [results, Try.results46, go_sem, x0, x1, x2, x3, x4]) rfl ⟨rfl, HO.out _ _⟩
set_option maxRecDepth 100000 in
set_option maxHeartbeats 4000000 in
theorem cids_any {S : Nat → Prop} (p : Nat) (places last : Int) (v : Value) (L : List Se) (w : World) (h : CtAt S w p places last v L) : Calls Try.prog 20 #[.pointer (some ⟨p, 0, none⟩)] w fun e w' => (∃ v', e = .returned v' ∧ OwnI w' v' (L.map Se.i)) ∧ Only (fun _ => False) w w' := by
  obtain ⟨i1, hj, hy0, hy1, hy2⟩ : ∃ i1, Try.prog.info? 3 = some i1 ∧ i1.zero = some (.int .i64 0) ∧ i1.size = 1 ∧ i1.bytes = 8 := by
    obtain ⟨i, h1, h2⟩ := Option.map_eq_some_iff.1 info_i64
    exact ⟨i, h1, by simpa using h2⟩
  have hll := h.len
  have c2 := h.c2
  obtain ⟨a, cap, rfl, hc, hr⟩ := h.own.reads
  have HR := Lib.hid hr
  have HTK : Hid (∀ k, k < L.length → (L.map Se.i).take (k + 1) = (L.map Se.i).take k ++ [(L.getD k default).i]) := Lib.hid (fun k hk => by
    rw [List.take_succ_eq_append_getElem (by rw [List.length_map]; exact hk)]
    simp [List.getD, hk])
  have HTL : Hid (∀ k, k ≤ L.length → ((L.map Se.i).take k).length = k) := Lib.hid (fun k hk => by rw [List.length_take, List.length_map]; omega)
  have HTE : Hid ((L.map Se.i).take L.length = L.map Se.i) := Lib.hid (List.take_of_length_le (by rw [List.length_map]; exact Nat.le_refl _))
  clear h hr
  generalize hM : L.map Se.i = M at *
  clear hM
  generalize hn : L.length = n at *
  go_enter Try.func20, Try.ntmps20
  go_wp2_with fail
  go_loopw [3, 13] (fun ov kv wr => ∃ (k : Nat) (dv : Value), k ≤ n ∧ kv = .int .i64 (k : Int) ∧ dv = ov ∧ Hid (OwnI wr dv (M.take k)) ∧ Hid (∀ q, dv.ownBlock = some q → w.heap.size ≤ q) ∧ Hid (Only (fun _ => False) w wr)) (fun _ kv _ => n - (intOf kv).toNat)
  case atStart => exact ⟨0, _, by omega, rfl, rfl, Lib.hid (OwnI.nil _), Lib.hid (fun q e => by cases e), Lib.hid (Only.refl _ _)⟩
  case round =>
    obtain ⟨k, dv, hk, rfl, rfl, HI, HBK, HO⟩ := hrel
    rename World => wr
    by_cases h8 : k < n
    · have hk0 : (0 : Int) ≤ k := by omega
      have hkn : (k : Int) < n := by omega
      obtain ⟨g, rfl, hcell⟩ := HR.out.2.resolve_left (by omega)
      obtain ⟨d0, d1, d2, d3, d4⟩ := hcell k h8
      replace d0 := HO.out.cell' d0 (fun f => f)
      replace d1 := HO.out.cell' d1 (fun f => f)
      replace d2 := HO.out.cell' d2 (fun f => f)
      replace d3 := HO.out.cell' d3 (fun f => f)
      replace d4 := HO.out.cell' d4 (fun f => f)
      have HSU := Lib.hid (HTK.out k h8)
      have HTK2 := Lib.hid (HTL.out k hk)
      generalize (L.getD k default).i = x at *
      generalize (L.getD k default).nd = y at *
      obtain ⟨wq, hwq⟩ : ∃ z, z = wr.alloc (.cells #[.int .i64 x, .int .i64 y, .int .i64 0, .int .i64 0, .slice none 0 0] 25) := ⟨_, rfl⟩
      obtain ⟨g9, hg9⟩ : ∃ z, z = wr.heap.size := ⟨_, rfl⟩
      obtain ⟨e0, -, -, -, -, hoq⟩ := sbox hwq hg9
      have HWQ := Lib.hid (HO.out.trans hoq)
      have HOW2 : Hid ((wq.alloc (.cells #[.int .i64 x] 3)).ownsRow 0 3 1 dv (M.take k).length (iv (M.take k))) := Lib.hid (HI.out.only (hoq.alloc _) (fun _ _ f => f))
      rw [HTK2.out] at HOW2
      clear hcell hoq
      go_upto_region 7 with fail
      simp only [← hwq, ← hg9]
      clear hwq hg9 d0 d1 d2 d3 d4
      go_wp2_with (at_builtin; refine append_mine rfl _ _ 38 rfl 3 i1 _ 1 8 Try.underlying38 hj hy0 hy1 hy2 rfl (by decide) _ k _ rfl HOW2.out ⟨wq.heap.size, 0, none⟩ 1 1 (iv [x]) rfl ?c1 ?c2 ?c3 ?c4 ?c5 ?_)
      case c1 => rfl
      case c2 => exact news_int rfl _
      case c3 => exact iv_one _
      case c4 => unfold maxLen; omega
      case c5 => omega
      intro v3 w3 hown hgrow hkk
      have HON : Hid (OwnI w3 v3 (M.take (k + 1))) := Lib.hid (by
        unfold OwnI
        rw [HSU.out, iv_append, List.length_append, HTK2.out]
        exact hown)
      have HBN : Hid (∀ q, v3.ownBlock = some q → w.heap.size ≤ q) := Lib.hid (fun q hq => by
        rcases hkk q hq with e | e
        · exact HBK.out q e
        · have h5 : wq.heap.size ≤ q := by first | omega | (simp only [size_alloc] at e; omega)
          have := HWQ.out.size
          omega)
      have HON2 : Hid (Only (fun _ => False) w w3) := Lib.hid ((HWQ.out.alloc _).then (Only.of_grown hgrow) (fun q hq e => by have := HBK.out q e; omega))
      clear hown hgrow hkk HOW2
      go_wp2_with fail
      go_roundw
      case rel => exact ⟨k + 1, v3, by omega, by go_num, rfl, HON, HBN, HON2⟩
      case measure => simp [intOf]; omega
    · obtain rfl : k = n := by omega
      have HEND : Hid (OwnI wr dv M) := Lib.hid (by rw [← HTE.out]; exact HI.out)
      go_wp2_with fail
      go_ret
      exact ⟨⟨_, rfl, HEND.out⟩, HO.out⟩
end Go.Proofs.Ytglcdpggngcdeaa.crd
