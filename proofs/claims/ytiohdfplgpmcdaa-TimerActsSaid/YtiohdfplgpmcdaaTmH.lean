/- Timers: Due. -/
import Derived.Test.YtiohdfplgpmcdaaTmG
import Derived.Deep.CutBlock
namespace Go.Proofs.Ytiohdfplgpmcdaa.tmw
open Go.RowKit mem rowz
set_option linter.unusedVariables false

def InK (c : Int) : Prop := -9223372036854775808 ≤ c ∧ c ≤ 9223372036854775807
def OwnI (w : World) (v : Value) (l : List Int) : Prop := w.ownsRow 0 3 1 v l.length (iv l)
theorem OwnI.nil (w : World) : OwnI w (.slice none 0 0) [] := World.ownsRow_nil _ _ _ _
theorem OwnI.only {S : Nat → Prop} {w w' : World} {v : Value} {ls : List Int} (h : OwnI w v ls) (ho : Only S w w') (hs : ∀ k, v.ownBlock = some k → ¬ S k) : OwnI w' v ls := owns_only ho h hs
theorem OwnI.reads {w : World} {v : Value} {l : List Int} (h : OwnI w v l) (hb : ∀ c ∈ l, InK c) (hm : l.length ≤ 1000000) : ∃ a cap, v = .slice a l.length cap ∧ ReadsI w a l.length l := by
  have h0 := h
  rcases h.2 with ⟨hv, hn⟩ | ⟨g, cap, cur, hv, hg, hh, hc, hmm, _⟩
  · exact ⟨none, 0, by rw [hv, hn], ⟨rfl, by unfold maxLen; omega, hb, .inl hn⟩⟩
  · refine ⟨some ⟨g, 0, none⟩, cap, hv, ?_⟩
    have h1 : w.ownsRow 0 3 1 (.slice (some ⟨g, 0, none⟩) l.length cap) l.length (iv l) := by rw [← hv]; exact h0
    exact ReadsI.of_owns h1 (by unfold maxLen; omega) hb
theorem iv_append (a b : List Int) : iv (a ++ b) = iv a ++ iv b := by simp [iv]
theorem news_int {W : World} {g : Nat} {x : Int} (hg : g = W.heap.size) (t : TypeId) : ∀ j u, (iv [x])[j]? = some u → (W.alloc (.cells #[.int .i64 x] t)).cell? ((Addr.mk g 0 none).add j) = some u := by
  intro j u hu
  rw [add_none, Nat.zero_add]
  exact alloc_newM _ _ _ _ _ _ hg (by rw [← List.getElem?_toArray] at hu; exact hu)
theorem tw_cut (now : Int) : ∀ (l : List Tm) (k : Nat), k ≤ l.length → (∀ j, j < k → (l.getD j default).a < now) → (k = l.length ∨ ¬ (l.getD k default).a < now) → l.takeWhile (fun x => decide (x.a < now)) = l.take k ∧ l.dropWhile (fun x => decide (x.a < now)) = l.drop k := by
  intro l
  induction l with
  | nil => intro k h1 _ _; obtain rfl : k = 0 := by simpa using h1
           exact ⟨rfl, rfl⟩
  | cons y r ih =>
    intro k h1 h2 h3
    cases k with
    | zero =>
      have hy : ¬ y.a < now := by
        rcases h3 with h3 | h3
        · simp at h3
        · simpa [List.getD] using h3
      rw [List.takeWhile_cons_of_neg (by simpa using hy), List.dropWhile_cons_of_neg (by simpa using hy)]
      exact ⟨rfl, rfl⟩
    | succ k =>
      have hy : y.a < now := by simpa [List.getD] using h2 0 (by omega)
      rw [List.takeWhile_cons_of_pos (by simpa using hy), List.dropWhile_cons_of_pos (by simpa using hy)]
      obtain ⟨e1, e2⟩ := ih k (by simpa using h1) (fun j hj => by simpa [List.getD] using h2 (j + 1) (by omega)) (h3.imp (fun e => by simpa using e) (fun e => by simpa [List.getD] using e))
      rw [e1, e2]
      exact ⟨rfl, rfl⟩
set_option maxRecDepth 100000 in
theorem tdel_nil (w : World) : Calls Try.prog 43 #[.slice none 0 0, .int .i64 0, .int .i64 0] w fun e w' => e = .returned (.slice none 0 0) ∧ w = w' := by
  go_enter Try.func43, Try.ntmps43
  go_wp2_with fail
  go_ret
  exact ⟨rfl, rfl⟩
/-- what Due answers -/
def DueAt (p : Nat) (v : Value) (l : List Tm) (now : Int) (w : World) (e : Ending) (w' : World) : Prop :=
  (∃ a c, e = .returned (.slice a ((l.takeWhile fun x => decide (x.a < now)).map Tm.i).length c) ∧ ReadsI w' a ((l.takeWhile fun x => decide (x.a < now)).map Tm.i).length ((l.takeWhile fun x => decide (x.a < now)).map Tm.i) ∧ (∀ y, a = some y → w.heap.size ≤ y.block)) ∧ (∃ v', TmAt w' p v' (l.dropWhile fun x => decide (x.a < now)) ∧ v'.ownBlock = v.ownBlock) ∧ Only (TmS p v) w w'
set_option maxRecDepth 100000 in
set_option maxHeartbeats 4000000 in
theorem tdue_any (p : Nat) (v : Value) (l : List Tm) (now : Int) (w : World) (h : TmAt w p v l) (hin : ∀ x ∈ l, InK x.i) :
    Calls Try.prog 14 #[.pointer (some ⟨p, 0, none⟩), .int .i64 now] w (DueAt p v l now w) := by
  obtain ⟨i1, hj, hy0, hy1, hy2⟩ := info_parts info_i64
  have HT := Lib.hid h
  have HIN := Lib.hid hin
  obtain ⟨cp, cf, co, cn, cl⟩ := h
  have HOWN := Lib.hid co
  obtain ⟨a, cap, rfl, hcap, hrd⟩ := co.reads
  have HRD := Lib.hid hrd
  have HCN := Lib.hid cn
  have HCF := Lib.hid cf
  have HCP := Lib.hid cp
  generalize hn : l.length = n at *
  have HN := Lib.hid hn
  clear co cn cf hrd hin hcap hn
  go_enter Try.func14, Try.ntmps14
  go_upto_block 0 with fail
  go_cut [5] from 15 to 28 (fun dv wx => ∃ k : Nat, k ≤ n ∧ Hid ((∀ j, j < k → (l.getD j default).a < now) ∧ (k = n ∨ ¬ (l.getD k default).a < now)) ∧ (∃ ds : List Int, Hid (ds = (l.take k).map Tm.i ∧ ds.length = k) ∧ Hid (OwnI wx dv ds)) ∧ Hid (∀ q, dv.ownBlock = some q → w.heap.size ≤ q) ∧ Hid (Only (fun _ => False) w wx))
  case first =>
    clear cp
    go_wp2_with fail
    go_loopw [5, 15] (fun sv kv wr => ∃ (k : Nat) (dv : Value) (ds : List Int), k ≤ n ∧ kv = .int .i64 k ∧ dv = sv ∧ Hid (∀ j, j < k → (l.getD j default).a < now) ∧ Hid (ds = (l.take k).map Tm.i ∧ ds.length = k) ∧ Hid (OwnI wr dv ds) ∧ Hid (∀ q, dv.ownBlock = some q → w.heap.size ≤ q) ∧ Hid (Only (fun _ => False) w wr)) (fun _ kv _ => n - (intOf kv).toNat)
    case atStart => exact ⟨0, _, [], by omega, rfl, rfl, Lib.hid (fun j hj => by omega), Lib.hid ⟨rfl, rfl⟩, Lib.hid (OwnI.nil _), Lib.hid (fun q e => by cases e), Lib.hid (Only.refl _ _)⟩
    case round =>
      obtain ⟨k, dv, ds, hk, rfl, rfl, HLT, HDS, HOI, HBK, HO⟩ := hrel
      by_cases h8 : k < n
      · obtain ⟨g, rfl, hcell⟩ := HRD.out.2.resolve_left (by omega)
        obtain ⟨c0, c1⟩ := hcell k h8
        replace c0 := HO.out.cell' c0 (fun f => f)
        replace c1 := HO.out.cell' c1 (fun f => f)
        have HY : Hid (l.getD k default = ⟨(l.getD k default).a, (l.getD k default).i⟩) := Lib.hid rfl
        generalize (l.getD k default).a = ya at *
        generalize (l.getD k default).i = yi at *
        have hk0 : (0 : Int) ≤ k := by omega
        have hkn : (k : Int) < n := by omega
        clear hcell
        by_cases hnow : now ≤ ya
        · have HFX : Hid (Only (fun _ => False) w (wr.alloc (.cells #[.int .i64 ya, .int .i64 yi] 80))) := Lib.hid (HO.out.alloc _)
          have HOX : Hid (OwnI (wr.alloc (.cells #[.int .i64 ya, .int .i64 yi] 80)) dv ds) := Lib.hid (HOI.out.only ((Only.refl (fun _ => False) _).alloc _) (fun _ _ f => f))
          go_wp2_with fail
          go_meet
          exact ⟨k, hk, Lib.hid ⟨HLT.out, .inr (by rw [HY.out]; first | (show ¬ ya < now; omega) | (show now ≤ ya; omega))⟩, ⟨ds, HDS, HOX⟩, HBK, HFX⟩
        · have hnow2 : ya < now := by omega
          have HOW2 : Hid (((wr.alloc (.cells #[.int .i64 ya, .int .i64 yi] 80)).alloc (.cells #[.int .i64 yi] 3)).ownsRow 0 3 1 dv k (iv ds)) := Lib.hid (by
            have h9 := HOI.out.only (((Only.refl (fun _ => False) wr).alloc (.cells #[.int .i64 ya, .int .i64 yi] 80)).alloc (.cells #[.int .i64 yi] 3)) (fun _ _ f => f)
            unfold OwnI at h9
            rw [HDS.out.2] at h9
            exact h9)
          go_wp2_with (at_builtin; refine append_mine rfl _ _ 33 rfl 3 i1 _ 1 8 Try.underlying33 hj hy0 hy1 hy2 rfl (by decide) _ k _ rfl HOW2.out ⟨wr.heap.size + 1, 0, none⟩ 1 1 (iv [yi]) rfl ?c1 ?c2 ?c3 ?c4 ?c5 ?_)
          case c1 => rfl
          case c2 => exact (fun j u h => h)
          case c3 => exact iv_one [yi]
          case c4 => unfold maxLen; omega
          case c5 => omega
          intro v3 w3 hown hgrow hkk
          have HTK : Hid (ds ++ [yi] = (l.take (k + 1)).map Tm.i ∧ (ds ++ [yi]).length = k + 1) := Lib.hid (by
            have hk' : k < l.length := by rw [HN.out]; exact h8
            have e : l[k] = ⟨ya, yi⟩ := by rw [← HY.out]; simp [List.getD, hk']
            refine ⟨?_, by rw [List.length_append, HDS.out.2]; rfl⟩
            rw [List.take_succ_eq_append_getElem hk', List.map_append, e, HDS.out.1]; rfl)
          have HON : Hid (OwnI w3 v3 (ds ++ [yi])) := Lib.hid (by unfold OwnI; rw [HTK.out.2, iv_append]; exact hown)
          have HBN : Hid (∀ q, v3.ownBlock = some q → w.heap.size ≤ q) := Lib.hid (fun q hq => by
            rcases hkk q hq with e | e
            · exact HBK.out q e
            · have h5 : wr.heap.size ≤ q := by first | omega | (simp only [size_alloc] at e; omega)
              have := HO.out.size
              omega)
          have HON2 : Hid (Only (fun _ => False) w w3) := Lib.hid (((HO.out.alloc _).alloc _).then (Only.of_grown hgrow) (fun q hq e => by have := HBK.out q e; omega))
          have HLN : Hid (∀ j, j < k + 1 → (l.getD j default).a < now) := Lib.hid (fun j hj' => by
            by_cases e : j = k
            · rw [e, HY.out]; exact hnow2
            · exact HLT.out j (by omega))
          clear hown hgrow hkk HOW2
          go_wp2_with fail
          go_roundw
          case rel => exact ⟨k + 1, v3, ds ++ [yi], by omega, by go_num, rfl, HLN, HTK, HON, HBN, HON2⟩
          case measure => simp [intOf]; omega
      · obtain rfl : k = n := by omega
        go_wp2_with fail
        go_meet
        exact ⟨k, Nat.le_refl _, Lib.hid ⟨HLT.out, .inl rfl⟩, ⟨ds, HDS, HOI⟩, HBK, HO⟩
  case rest =>
    obtain ⟨k, hk, HLT, ⟨ds, HDS, HOI⟩, HBK, HO⟩ := hcut
    rename World => W1
    obtain ⟨hkl, hkd⟩ := tw_cut now l k (by rw [HN.out]; exact hk) HLT.out.1 (by rw [HN.out]; exact HLT.out.2)
    have HTD := Lib.hid (And.intro hkl hkd)
    clear hkl hkd
    obtain ⟨da, dc, hdv, hdr⟩ := HOI.out.reads (fun c hc => by
      rw [HDS.out.1] at hc
      obtain ⟨x, hx, rfl⟩ := List.mem_map.1 hc
      exact HIN.out x (List.mem_of_mem_take hx)) (by rw [HDS.out.2]; omega)
    rw [HDS.out.2] at hdv hdr
    subst hdv
    have HDR := Lib.hid hdr
    clear hdr
    have hpw : p < w.heap.size := World.block_lt_of_cell? w _ HCP.out
    have c1 := HO.out.cell' HCP.out (fun f => f)
    have f1 : W1.frozen? ⟨p, 0, none⟩ = false := (HO.out.frozen (p := ⟨p, 0, none⟩) hpw (fun f => f)).trans HCF.out
    have HDE : Hid (Calls Try.prog 43 #[.slice a n cap, .int .i64 0, .int .i64 k] W1 fun e w' => ∃ a2 c2, e = .returned (.slice a2 (n - k) c2) ∧ OwnM w' (.slice a2 (n - k) c2) (l.drop k) ∧ (Value.slice a2 (n - k) c2).ownBlock = (Value.slice a n cap).ownBlock ∧ Only (fun q => (Value.slice a n cap).ownBlock = some q) W1 w') := Lib.hid (by
      have ho1 := HOWN.out.only HO.out (fun _ _ f => f)
      have hdl : (l.drop k).length = n - k := by rw [List.length_drop, HN.out]
      rcases ho1.form with ⟨e1, e2⟩ | ⟨q, cq, e1, _⟩
      · injection e1 with e1 e3 e4
        subst e1 e3 e4
        obtain rfl : k = 0 := by omega
        refine (tdel_nil W1).mono fun e w' ⟨h1, h2⟩ => ?_
        subst h2
        refine ⟨none, 0, h1, ?_, rfl, Only.refl _ _⟩
        rw [List.drop_zero]
        exact ho1
      · injection e1 with e1 e3 e4
        subst e1 e4
        have hd := tdel_any q l.length cap (mv l) 0 k (by omega) (by rw [HN.out]; exact hk) (mv_one l) W1 (by have h9 := ho1; unfold OwnM at h9; rw [← HN.out] at h9; exact h9)
        have e5 : 0 + (n - k) = n - k := by omega
        rw [Nat.zero_mul, List.take_zero, List.nil_append, mv_drop, HN.out, e5] at hd
        refine hd.mono fun e w' ⟨h1, h2, h3⟩ => ⟨_, _, h1, ?_, rfl, h3.mono (fun x _ e => by have e' : x = q := e; rw [e']; rfl)⟩
        unfold OwnM
        rw [hdl]
        exact h2)
    have hk0 : (0 : Int) ≤ k := by omega
    clear HOI HLT
    go_wp2_with fail
    refine HDE.out.mono ?_
    rintro _ w3 ⟨a2, c2, rfl, hown, hblk, k3⟩
    have d1 := k3.cell' c1 HCN.out
    have f3 : w3.frozen? ⟨p, 0, none⟩ = false := (k3.frozen (p := ⟨p, 0, none⟩) (World.block_lt_of_cell? _ _ c1) HCN.out).trans f1
    obtain ⟨W9, hW9⟩ : ∃ x, x = w3.setCell ⟨p, 0, none⟩ (.slice a2 (n - k) c2) := ⟨_, rfl⟩
    have HST : Only (fun x => x = p) w3 W9 := by rw [hW9]; exact Only.set (fun x => x = p) w3 p 0 _ rfl
    have HQ : Hid (DueAt p (.slice a n cap) l now w (.returned (.slice da k dc)) W9) := Lib.hid (by
      have hlen : ((l.takeWhile fun x => decide (x.a < now)).map Tm.i).length = k := by rw [HTD.out.1, ← HDS.out.1]; exact HDS.out.2
      have hids : (l.takeWhile fun x => decide (x.a < now)).map Tm.i = ds := by rw [HTD.out.1, HDS.out.1]
      have hS : Only (TmS p (.slice a n cap)) w W9 := only_tr (only_tr (HO.out.mono (fun _ _ f => f.elim)) k3 (fun q e => .inr e)) HST (fun q e => .inl e)
      refine ⟨⟨da, dc, by rw [hlen], ?_, fun y hy => HBK.out _ (by rw [hy]; rfl)⟩, ⟨.slice a2 (n - k) c2, ⟨?_, ?_, ?_, ?_, ?_⟩, hblk⟩, hS⟩
      · rw [hlen, hids]
        refine HDR.out.only (S := TmS p (.slice a n cap)) (only_tr (k3.mono (fun q _ e => .inr e)) HST (fun q e => .inl e)) (fun y hy e => ?_)
        have h9 := HBK.out y.block (by rw [hy]; rfl)
        rcases e with e | e
        · omega
        · have := HOWN.out.lt e; omega
      · rw [hW9]; exact cell_same d1
      · rw [hW9]; exact frozen_set.trans f3
      · rw [HTD.out.2]
        exact hown.only HST (fun x hx e => by
          have e' : x = p := e
          rw [hblk] at hx
          exact HCN.out (by rw [← e']; exact hx))
      · rw [hblk]; exact HCN.out
      · rw [HTD.out.2, List.length_drop, HN.out]; omega)
    clear hown hblk k3 c1 f1 HST
    generalize DueAt p (.slice a n cap) l now w = Q at *
    go_wp2_with fail
    rw [← hW9]
    exact HQ.out
end Go.Proofs.Ytiohdfplgpmcdaa.tmw
