/- The tree: Ids, path, Path, Below. -/
import Derived.Test.YtkbaafgaaiekpaaTrD
import Derived.Test.YtkbaafgaaiekpaaMemI
import Derived.Test.YtkbaafgaaiekpaaShelf
namespace Go.Proofs.Ytkbaafgaaiekpaa.tre
open Go.RowKit mem
set_option linter.unusedVariables false

def OwnI (w : World) (v : Value) (l : List Int) : Prop := w.ownsRow 0 3 1 v l.length (iv l)
theorem OwnI.nil (w : World) : OwnI w (.slice none 0 0) [] := World.ownsRow_nil _ _ _ _
theorem OwnI.only {S : Nat → Prop} {w w' : World} {v : Value} {ls : List Int} (h : OwnI w v ls) (ho : Only S w w') (hs : ∀ k, v.ownBlock = some k → ¬ S k) : OwnI w' v ls := owns_only ho h hs
/-- what a row of the call's own reads as -/
theorem OwnI.reads {w : World} {v : Value} {l : List Int} (h : OwnI w v l) (hb : ∀ c ∈ l, 0 ≤ c ∧ c ≤ 100) (hm : l.length ≤ 1000000) : ∃ a cap, v = .slice a l.length cap ∧ ReadsI w a l.length l ∧ (∀ y, a = some y → v.ownBlock = some y.block) := by
  have h0 := h
  have hb' : ∀ c ∈ l, -9223372036854775808 ≤ c ∧ c ≤ 9223372036854775807 := fun c hc => by have := hb c hc; omega
  rcases h.2 with ⟨hv, hn⟩ | ⟨g, cap, cur, hv, hg, hh, hc, hmm, _⟩
  · exact ⟨none, 0, by rw [hv, hn], ⟨rfl, by unfold maxLen; omega, hb', .inl hn⟩, fun y e => by cases e⟩
  · refine ⟨some ⟨g, 0, none⟩, cap, hv, ?_, fun y e => by cases e; rw [hv]; rfl⟩
    have h1 : w.ownsRow 0 3 1 (.slice (some ⟨g, 0, none⟩) l.length cap) l.length (iv l) := by rw [← hv]; exact h0
    exact ReadsI.of_owns h1 (by unfold maxLen; omega) hb'
theorem iv_append (a b : List Int) : iv (a ++ b) = iv a ++ iv b := by simp [iv]
theorem news_int {W : World} {g : Nat} {x : Int} (hg : g = W.heap.size) (t : TypeId) : ∀ j u, (iv [x])[j]? = some u → (W.alloc (.cells #[.int .i64 x] t)).cell? ((Addr.mk g 0 none).add j) = some u := by
  intro j u hu
  rw [add_none, Nat.zero_add]
  exact alloc_cell hg (by rw [← List.getElem?_toArray] at hu; exact hu)
/-- a list of ints that a call hands back, in memory of its own -/
def RetI (l : List Int) (w0 : World) (v : Value) (w' : World) : Prop := ∃ a c, v = .slice a l.length c ∧ ReadsI w' a l.length l ∧ (∀ y, a = some y → w0.heap.size ≤ y.block)
theorem RetI.of_own {l : List Int} {w0 w' : World} {v : Value} (h : OwnI w' v l) (hb : ∀ c ∈ l, 0 ≤ c ∧ c ≤ 100) (hm : l.length ≤ 1000000) (hn : ∀ q, v.ownBlock = some q → w0.heap.size ≤ q) : RetI l w0 v w' := by
  obtain ⟨a, c, h1, h2, h3⟩ := h.reads hb hm
  exact ⟨a, c, h1, h2, fun y e => hn _ (h3 y e)⟩

def idsU (T : List Nd) (k : Nat) : List Int := ((List.range k).filter fun (j : Nat) => hasB T (j : Int)).map fun (j : Nat) => (j : Int)
def idsL (T : List Nd) : List Int := idsU T 33
theorem idsU_succ (T : List Nd) (k : Nat) : idsU T (k + 1) = if hasB T k = true then idsU T k ++ [(k : Int)] else idsU T k := by
  unfold idsU
  rw [List.range_succ, List.filter_append]
  by_cases h : hasB T k = true
  · rw [if_pos h]; simp [h]
  · rw [if_neg h]; simp [h]
theorem idsU_in (T : List Nd) (k : Nat) : ∀ c ∈ idsU T k, 0 ≤ c ∧ c ≤ 32 ∧ hasB T c = true := by
  intro c hc
  simp only [idsU, List.mem_map, List.mem_filter] at hc
  obtain ⟨j, ⟨_, h⟩, rfl⟩ := hc
  have := hasB_iff.1 h
  exact ⟨by omega, by omega, h⟩
theorem idsU_len (T : List Nd) (k : Nat) : (idsU T k).length ≤ k := by
  unfold idsU
  rw [List.length_map]
  exact Nat.le_trans (List.length_filter_le _ _) (by simp)
/-- the nodes up from this one, so many -/
def upL (T : List Nd) : Nat → Int → List Int
  | 0, _ => []
  | n + 1, id => id :: upL T n (T.getD id.toNat default).par
def kindN (T : List Nd) (id : Int) : Nat := (T.getD id.toNat default).kind.toNat
/-- each node stands where it may -/
def Inv (T : List Nd) : Prop := ∀ k : Nat, hasB T k = true → 1 ≤ (T.getD k default).kind ∧ (T.getD k default).kind ≤ 3 ∧ ((T.getD k default).kind = 1 → (T.getD k default).par = 0) ∧
  ((T.getD k default).kind ≠ 1 → hasB T (T.getD k default).par = true ∧ (T.getD (T.getD k default).par.toNat default).kind = (T.getD k default).kind - 1)
def pm (T : List Nd) (x : Int) : Nat := if x = 0 then 0 else kindN T x
def pathL (T : List Nd) (id : Int) : List Int := (upL T (kindN T id) id).reverse
theorem upL_in {T : List Nd} (hi : Inv T) : ∀ n id, hasB T id = true → kindN T id = n → ∀ c ∈ upL T n id, hasB T c = true := by
  intro n
  induction n with
  | zero => intro id _ _ c hc; cases hc
  | succ n ih =>
    intro id hb hk c hc
    rcases List.mem_cons.1 hc with rfl | hc
    · exact hb
    · obtain ⟨j, rfl⟩ : ∃ j : Nat, id = j := ⟨id.toNat, by have := hasB_iff.1 hb; omega⟩
      obtain ⟨h1, h2, h3, h4⟩ := hi j hb
      rw [Int.toNat_natCast] at hc
      unfold kindN at hk
      rw [Int.toNat_natCast] at hk
      by_cases h : (T.getD j default).kind = 1
      · rw [h] at hk
        obtain rfl : n = 0 := by simp at hk; omega
        cases hc
      · obtain ⟨h5, h6⟩ := h4 h
        exact ih _ h5 (by unfold kindN; omega) c hc
theorem upL_len (T : List Nd) : ∀ n id, (upL T n id).length = n := by
  intro n
  induction n with
  | zero => intro id; rfl
  | succ n ih => intro id; simp [upL, ih]
theorem only_setCells (b : Nat) : ∀ (vs : List Value) (o : Nat) (w : World), Only (fun q => q = b) w (w.setCells b o vs) := by
  intro vs
  induction vs with
  | nil => intro o w; exact Only.refl _ _
  | cons v r ih => intro o w; exact (Only.set (fun q => q = b) w b o v rfl).trans (ih (o + 1) _)
theorem only_drewN (S : Nat → Prop) (w : World) (n : Nat) : Only S w (w.drewN n) := ⟨rfl, rfl, rfl, Nat.le_refl _, fun _ _ _ => rfl⟩
set_option maxRecDepth 100000 in
set_option maxHeartbeats 4000000 in
theorem path_any (p : Nat) (T : List Nd) (id : Int) (w : World) (h : TreeAt w p T) (hi : Inv T) (hb : hasB T id = true) : Calls Try.prog 47 #[.pointer (some ⟨p, 0, none⟩), .int .i64 id] w fun e w' => (∃ v, e = .returned v ∧ RetI (pathL T id) w v w') ∧ Only (fun _ => False) w w' := by
  obtain ⟨i1, hj, hy0, hy1, hy2⟩ : ∃ i1, Try.prog.info? 3 = some i1 ∧ i1.zero = some (.int .i64 0) ∧ i1.size = 1 ∧ i1.bytes = 8 := by
    obtain ⟨i, h1, h2⟩ := Option.map_eq_some_iff.1 info_i64
    exact ⟨i, h1, by simpa using h2⟩
  have HT := Lib.hid h
  have HI := Lib.hid hi
  have HK3 : Hid (∀ c, hasB T c = true → 1 ≤ c ∧ c ≤ 32 ∧ 1 ≤ kindN T c ∧ kindN T c ≤ 3) := Lib.hid (fun c hc => by
    have h1 := hasB_iff.1 hc
    obtain ⟨j, rfl⟩ : ∃ j : Nat, c = j := ⟨c.toNat, by omega⟩
    obtain ⟨h2, h3, _⟩ := hi j hc
    unfold kindN
    rw [Int.toNat_natCast]
    exact ⟨h1.1, h1.2.1, by omega, by omega⟩)
  have HU0 : Hid (∀ c ∈ upL T (kindN T id) id, hasB T c = true) := Lib.hid (upL_in hi _ id hb rfl)
  have hkid := HK3.out id hb
  have HLU := Lib.hid (upL_len T (kindN T id) id)
  have HPL : Hid (pathL T id = (upL T (kindN T id) id).reverse) := Lib.hid rfl
  obtain ⟨K, hK⟩ : ∃ K, K = kindN T id := ⟨_, rfl⟩
  have HATS : Hid (∃ n, n ≤ 3 ∧ (n = 0 ∧ id = 0 ∨ hasB T id = true ∧ kindN T id = n) ∧ [] ++ upL T n id = upL T K id) := Lib.hid ⟨K, by omega, .inr ⟨hb, hK.symm⟩, rfl⟩
  rw [← hK] at HU0 HLU HPL hkid
  clear h hi hb hK
  generalize upL T K id = U at *
  generalize pathL T id = PL at *
  go_enter Try.func47, Try.ntmps47
  go_wp2_with fail
  go_loopw [1, 5] (fun xv sv wr => ∃ (x : Int) (n : Nat) (dv : Value) (L : List Int), xv = .int .i64 x ∧ dv = sv ∧ n ≤ 3 ∧ Hid (n = 0 ∧ x = 0 ∨ hasB T x = true ∧ kindN T x = n) ∧ Hid (L ++ upL T n x = U) ∧ Hid (OwnI wr dv L) ∧ Hid (∀ q, dv.ownBlock = some q → w.heap.size ≤ q) ∧ Hid (Only (fun _ => False) w wr)) (fun xv _ _ => pm T (intOf xv))
  case atStart =>
    obtain ⟨n, h1, h2, h3⟩ := HATS.out
    exact ⟨_, n, _, [], rfl, rfl, h1, Lib.hid h2, Lib.hid h3, Lib.hid (OwnI.nil _), Lib.hid (fun q e => by cases e), Lib.hid (Only.refl _ _)⟩
  case round =>
    obtain ⟨x, n, dv, L, rfl, rfl, hn3, HX, HL, HOI, HBK, HO⟩ := hrel
    by_cases hx : x = 0
    · subst hx
      have HUL : Hid (L = U) := Lib.hid (by
        rcases HX.out with ⟨h1, _⟩ | ⟨h1, _⟩
        · have := HL.out; rw [h1] at this; simpa [upL] using this
        · have := hasB_iff.1 h1; omega)
      have hl3 : L.length = K := by rw [HUL.out, HLU.out]
      obtain ⟨g, cap, rfl, hg, hrd, hfz⟩ : ∃ g cap, dv = .slice (some ⟨g, 0, none⟩) L.length cap ∧ g < wr.heap.size ∧ (∀ j, j < L.length → wr.cell? ⟨g, 0 + j, none⟩ = some (.int .i64 (L.getD j 0))) ∧ (∀ j, wr.frozen? ⟨g, j, none⟩ = false) := by
        have h0 := HOI.out
        rcases h0.2 with ⟨_, hn⟩ | ⟨g, cap, cur, hv, hg, hh, hc, hm, _⟩
        · omega
        · have h1 : wr.ownsRow 0 3 1 (.slice (some ⟨g, 0, none⟩) L.length cap) L.length (iv L) := by rw [← hv]; exact h0
          refine ⟨g, cap, hv, heap_lt hh, fun j hj => ?_, fun j => ?_⟩
          · rw [Nat.zero_add, h1.cellAt j (by omega), iv_get L j hj]
          · unfold World.frozen?
            dsimp only
            rw [hh]
            simp
      have hgb : w.heap.size ≤ g := HBK.out g rfl
      have HREV := Lib.hid (Try.slices_Reverse_int_cells g 0 L.length cap L wr (Nat.le_refl _) (by omega) hrd (fun j hj => by rw [Nat.zero_add]; exact hfz j))
      have HEND : Hid (∀ q, RetI PL w (.slice (some ⟨g, 0, none⟩) K cap) ((wr.drewN q).setCells g 0 ((L.take L.length).reverse.map (Value.int .i64))) ∧ Only (fun _ => False) w ((wr.drewN q).setCells g 0 ((L.take L.length).reverse.map (Value.int .i64)))) := Lib.hid fun q => by
        refine ⟨?_, (HO.out.trans (only_drewN _ _ _)).then (only_setCells _ _ _ _) (fun i hi e => by omega)⟩
        have hPL : PL.length = K := by rw [HPL.out, List.length_reverse, HLU.out]
        have hPL2 : (L.take L.length).reverse = PL := by rw [List.take_length, HUL.out, ← HPL.out]
        rw [hPL2]
        have hra := World.rangeAt_setCells_same (wr.drewN q) g 0 (PL.map (Value.int .i64)) (fun j hj => by
          rw [List.length_map, hPL] at hj
          have h1 := (only_drewN (fun _ => False) wr q).cell' (hrd j (by omega)) (fun f => f)
          refine ⟨by rw [h1]; rfl, ?_⟩
          rw [Nat.zero_add]
          exact ((only_drewN (fun _ => False) wr q).frozen (p := ⟨g, j, none⟩) hg (fun f => f)).trans (hfz j))
        refine ⟨some ⟨g, 0, none⟩, cap, by rw [hPL], ⟨rfl, by unfold maxLen; omega, fun c hc => ?_, .inr ⟨g, 0, rfl, fun j hj => ?_⟩⟩, fun y e => by cases e; exact hgb⟩
        · have : c ∈ U := by rw [HPL.out] at hc; simpa using hc
          have := HK3.out c (HU0.out c this)
          omega
        · exact hra j _ (by simp [List.getD, hj])
      clear hrd hfz
      rw [hl3] at HREV HEND ⊢
      clear hl3
      go_wp2_with fail
      refine HREV.out.mono ?_
      rintro _ _ ⟨rfl, q, rfl⟩
      have hend := HEND.out q
      simp only [List.map_reverse, List.map_take] at hend
      have HE := Lib.hid hend
      clear hend HEND
      go_wp2_with fail
      go_ret
      exact ⟨⟨.slice (some ⟨g, 0, none⟩) K cap, rfl, HE.out.1⟩, HE.out.2⟩
    · have hbx : hasB T x = true ∧ kindN T x = n := HX.out.resolve_left (fun h => hx h.2)
      obtain ⟨hbx1, hbx2⟩ := hbx
      have hr := HK3.out x hbx1
      obtain ⟨j, rfl⟩ : ∃ j : Nat, x = j := ⟨x.toNat, by omega⟩
      obtain ⟨m, rfl⟩ : ∃ m, n = m + 1 := ⟨n - 1, by omega⟩
      have hj33 : j < 33 := by omega
      have hj2 : (j : Int) < 33 := by omega
      have hj1 : (1 : Int) ≤ j := by omega
      have c1 := ((HT.out.only HO.out (fun f => f)).2.1 j hj33).2.1
      obtain ⟨i2, i3, i4, i5⟩ := HI.out j hbx1
      have HNX : Hid (m ≤ 3 ∧ (m = 0 ∧ (T.getD j default).par = 0 ∨ hasB T (T.getD j default).par = true ∧ kindN T (T.getD j default).par = m) ∧ (L ++ [(j : Int)]) ++ upL T m (T.getD j default).par = U) := Lib.hid (by
        unfold kindN at hbx2
        rw [Int.toNat_natCast] at hbx2
        refine ⟨by omega, ?_, by have := HL.out; rw [List.append_assoc]; simpa [upL] using this⟩
        by_cases h1 : (T.getD j default).kind = 1
        · exact .inl ⟨by rw [h1] at hbx2; simp at hbx2; omega, i4 h1⟩
        · exact .inr ⟨(i5 h1).1, by unfold kindN; have := (i5 h1).2; omega⟩)
      have HM : Hid (kindN T j = m + 1) := Lib.hid hbx2
      have HLL : Hid (L.length ≤ 3) := Lib.hid (by
        have := congrArg List.length HL.out
        rw [List.length_append, upL_len, HLU.out] at this
        omega)
      generalize hy : (T.getD j default).par = y at *
      have HY := Lib.hid hy
      clear hy
      have HOW2 : Hid ((wr.alloc (.cells #[.int .i64 j] 3)).ownsRow 0 3 1 dv L.length (iv L)) := Lib.hid (HOI.out.only ((Only.refl (fun _ => False) wr).alloc _) (fun _ _ f => f))
      have hxn : ((j : Int) != 0) = true := by simpa using hx
      replace hx : ¬ (j : Int) = 0 := hx
      generalize hn : L.length = l at *
      have HN := Lib.hid hn
      have hl3 : l ≤ 3 := HLL.out
      clear i2 i3 i4 i5 hbx1 hbx2 hr hn HLL HX
      have c1' := ((Only.refl (fun _ => False) wr).alloc (.cells #[.int .i64 j] 3)).cell' c1 (fun f => f)
      go_wp2_with (at_builtin; refine append_mine rfl _ _ 28 rfl 3 i1 _ 1 8 Try.underlying28 hj hy0 hy1 hy2 rfl (by decide) _ l _ rfl HOW2.out ⟨wr.heap.size, 0, none⟩ 1 1 (iv [(j : Int)]) rfl ?c1 ?c2 ?c3 ?c4 ?c5 ?_)
      case c1 => rfl
      case c2 => exact news_int rfl _
      case c3 => exact iv_one _
      case c4 => unfold maxLen; omega
      case c5 => omega
      intro v3 w3 hown hgrow hkk
      have HON : Hid (OwnI w3 v3 (L ++ [(j : Int)])) := Lib.hid (by
        unfold OwnI
        rw [iv_append, List.length_append, HN.out]
        exact hown)
      have HBN : Hid (∀ q, v3.ownBlock = some q → w.heap.size ≤ q) := Lib.hid (fun q hq => by
        rcases hkk q hq with e | e
        · exact HBK.out q e
        · have h5 : wr.heap.size ≤ q := by first | omega | (simp only [size_alloc] at e; omega)
          have := HO.out.size
          omega)
      have HON2 : Hid (Only (fun _ => False) w w3) := Lib.hid ((HO.out.alloc _).then (Only.of_grown hgrow) (fun q hq e => by have := HBK.out q e; omega))
      have c1'' := ((HT.out.only HON2.out (fun f => f)).2.1 j hj33).2.1
      rw [HY.out] at c1''
      clear hown hgrow hkk HOW2 c1 c1'
      go_wp2_with fail
      go_roundw
      case rel => exact ⟨y, m, v3, L ++ [(j : Int)], rfl, rfl, HNX.out.1, Lib.hid HNX.out.2.1, Lib.hid HNX.out.2.2, HON, HBN, HON2⟩
      case measure =>
        show pm T y < pm T j
        unfold pm
        rw [if_neg hx, HM.out]
        rcases HNX.out.2.1 with ⟨h1, h2⟩ | ⟨h1, h2⟩
        · rw [if_pos h2]; omega
        · by_cases hy0' : y = 0
          · rw [if_pos hy0']; omega
          · rw [if_neg hy0', h2]; omega
theorem RetI.nil (w0 w' : World) : RetI [] w0 (.slice none 0 0) w' := ⟨none, 0, rfl, ⟨rfl, by unfold maxLen; simp, (by intro c hc; cases hc), .inl rfl⟩, fun y e => by cases e⟩
set_option maxRecDepth 100000 in
set_option maxHeartbeats 2000000 in
theorem bigpath_any (p : Nat) (T : List Nd) (id : Int) (w : World) (h : TreeAt w p T) (hi : Inv T) : Calls Try.prog 20 #[.pointer (some ⟨p, 0, none⟩), .int .i64 id] w fun e w' => (∃ v, e = .returned (.tuple #[v, .int .i64 (gotE T id)]) ∧ RetI (if hasB T id = true then pathL T id else []) w v w') ∧ Only (fun _ => False) w w' := by
  obtain ⟨ni, np, nk, nl, nc, ge, hgo, hge, hno, hyes, HG, HX⟩ := get_ahead p T id w h
  have HT := Lib.hid h
  rw [hge]
  by_cases hb : hasB T id = false
  · obtain rfl := hno hb
    rw [if_neg (by rw [hb]; simp)]
    clear hgo hge hno hyes hb h hi
    go_enter Try.func20, Try.ntmps20
    go_wp2_with fail
    refine HG.out.mono ?_
    rintro _ w1 ⟨rfl, ho⟩
    obtain ⟨e0, e1, e2, e3, e4, ho9⟩ := HX.out w1 ho
    have HO9 := Lib.hid ho9
    clear ho ho9 HG HX
    go_wp2_with fail
    go_ret2
    exact ⟨⟨_, rfl, RetI.nil _ _⟩, HO9.out⟩
  · have hb' : hasB T id = true := by simpa using hb
    obtain ⟨rfl, _⟩ := hyes hb'
    rw [if_pos hb']
    have HP : Hid (∀ w1, TreeAt w1 p T → _) := Lib.hid (fun w1 h => path_any p T id w1 h hi hb')
    clear hgo hge hno hyes hb hb' h hi
    generalize pathL T id = PL at *
    go_enter Try.func20, Try.ntmps20
    go_wp2_with fail
    refine HG.out.mono ?_
    rintro _ w1 ⟨rfl, ho⟩
    obtain ⟨e0, e1, e2, e3, e4, ho9⟩ := HX.out w1 ho
    have HO9 := Lib.hid ho9
    clear ho ho9 HG HX
    go_wp2_with fail
    refine (HP.out _ (HT.out.only HO9.out (fun f => f))).mono ?_
    rintro _ w2 ⟨⟨v, rfl, a, c, rfl, hr, hb⟩, ho2⟩
    have HR := Lib.hid hr
    have HB := Lib.hid hb
    have HO10 := Lib.hid (HO9.out.trans ho2)
    have HO2 := Lib.hid ho2
    clear hr hb ho2 e0 e1 e2 e3 e4 HP
    go_wp2_with fail
    go_ret2
    exact ⟨⟨_, rfl, a, c, rfl, HR.out, fun y e => by have := HB.out y e; have := HO9.out.size; omega⟩, HO10.out⟩
end Go.Proofs.Ytkbaafgaaiekpaa.tre
