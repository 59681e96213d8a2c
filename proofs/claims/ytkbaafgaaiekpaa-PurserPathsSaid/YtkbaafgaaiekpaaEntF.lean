/- Entries: the legs of one that is made. -/
import Derived.Test.YtkbaafgaaiekpaaEntE
namespace Go.Proofs.Ytkbaafgaaiekpaa.entw
open Go.RowKit mem entm
set_option linter.unusedVariables false

theorem info_leg : (Try.prog.info? 106).map (fun i => (i.zero, i.size, i.bytes)) = some (some (.agg #[.int .i64 0, .int .i64 0, .int .i64 0, .int .i64 0]), 4, 32) := by kernel_rfl

theorem rawN_succ (kind amount g : Int) (path : List Int) (k : Nat) (h : k < path.length) : rawN kind amount g (path.take (k + 1)) = rawN kind amount g (path.take k) ++ nodeL kind amount g (path.getD k 0) := by
  have : path.getD k 0 = path[k] := by simp [List.getD, h]
  unfold rawN
  rw [List.take_succ_eq_append_getElem h, List.flatMap_append, List.flatMap_singleton, this]
theorem rawN_len (kind amount g : Int) (path : List Int) : (rawN kind amount g path).length ≤ 2 * path.length := by
  induction path with
  | nil => simp [rawN]
  | cons x r ih =>
    have e : rawN kind amount g (x :: r) = nodeL kind amount g x ++ rawN kind amount g r := by simp [rawN]
    have h2 : (nodeL kind amount g x).length ≤ 2 := by unfold nodeL; split <;> simp
    rw [e, List.length_append, List.length_cons]
    omega
def InL (l : Lg) : Prop := InI l.k ∧ InI l.n ∧ InI l.g ∧ InI l.a
theorem creL_in (kind amount n g : Int) (hn : InI n) (hg : InI g) (ha : 1 ≤ amount ∧ amount ≤ 9007199254740992) : InL (creL kind amount n g) := by
  unfold creL InL InI at *
  repeat' split
  all_goals (dsimp only; omega)
theorem debL_in (kind amount n g : Int) (hn : InI n) (hg : InI g) (ha : 1 ≤ amount ∧ amount ≤ 9007199254740992) : InL (debL kind amount n g) := by
  unfold debL InL InI at *
  repeat' split
  all_goals (dsimp only; omega)
theorem rawN_in (kind amount g : Int) (hg : InI g) (ha : 1 ≤ amount ∧ amount ≤ 9007199254740992) (path : List Int) (hp : ∀ n ∈ path, InI n) : ∀ l ∈ rawN kind amount g path, InL l := by
  intro l hl
  unfold rawN at hl
  rw [List.mem_flatMap] at hl
  obtain ⟨n, hn, hl⟩ := hl
  unfold nodeL at hl
  split at hl
  · rw [List.mem_singleton] at hl; rw [hl]; exact creL_in _ _ _ _ (hp n hn) hg ha
  · rw [List.mem_cons, List.mem_singleton] at hl
    rcases hl with rfl | rfl
    · exact debL_in _ _ _ _ (hp n hn) hg ha
    · exact creL_in _ _ _ _ (hp n hn) hg ha
theorem rawL_in (kind amount g : Int) (hg : InI g) (ha : 1 ≤ amount ∧ amount ≤ 9007199254740992) (path : List Int) (h3 : path.length ≤ 3) (hp : ∀ n ∈ path, InI n) : ∀ l ∈ rawL kind amount g path, InL l := by
  intro l hl
  unfold rawL at hl
  rw [List.mem_append] at hl
  rcases hl with hl | hl
  · split at hl
    · rw [List.mem_singleton] at hl; rw [hl]
      have h1 : path.length = 0 ∨ path.length = 1 ∨ path.length = 2 ∨ path.length = 3 := by omega
      unfold InL InI
      rcases h1 with h1 | h1 | h1 | h1 <;> rw [h1] <;> (dsimp only; omega)
    · cases hl
  · exact rawN_in kind amount g hg ha path hp l hl
theorem rawL_len (kind amount g : Int) (path : List Int) : (rawL kind amount g path).length ≤ 1 + 2 * path.length := by
  have := rawN_len kind amount g path
  unfold rawL
  rw [List.length_append]
  split
  · rw [List.length_singleton]; omega
  · simp; omega
theorem rawL_pos_len (kind amount g : Int) (path : List Int) (h : 1 ≤ path.length) : 1 ≤ (rawL kind amount g path).length := by
  unfold rawL
  rw [List.length_append]
  cases path with
  | nil => simp at h
  | cons x r =>
    have e : rawN kind amount g (x :: r) = nodeL kind amount g x ++ rawN kind amount g r := by simp [rawN]
    have h2 : 1 ≤ (nodeL kind amount g x).length := by unfold nodeL; split <;> simp
    rw [e, List.length_append]
    omega

theorem news_leg {W : World} {g : Nat} {k n gg a : Int} (hg : g = W.heap.size) (t : TypeId) : ∀ j u, (encL ⟨k, n, gg, a⟩)[j]? = some u → (W.alloc (.cells #[.int .i64 k, .int .i64 n, .int .i64 gg, .int .i64 a] t)).cell? ((Addr.mk g 0 none).add j) = some u := by
  intro j u hu
  rw [add_none, Nat.zero_add]
  exact alloc_new _ _ _ _ _ _ hg (by rw [← List.getElem?_toArray] at hu; exact hu)

theorem own_lt {w : World} {v : Value} {ls : List Lg} (h : OwnL w v ls) (k : Nat) (hk : v.ownBlock = some k) : k < w.heap.size := (World.ownsRow.lt h k hk).2

/-- behind legs -/
def LegsAt (raw : List Lg) (w : World) (e : Ending) (w' : World) : Prop :=
  ∃ g cap ls, e = .returned (.slice (some ⟨g, 0, none⟩) ls.length cap) ∧ ls.Perm raw ∧ Sorted ls ∧ ReadsL w' (some ⟨g, 0, none⟩) ls.length ls ∧ w.heap.size ≤ g ∧ Only (fun _ => False) w w'

set_option maxHeartbeats 2000000 in
theorem legs_n (kind amount : Int) (hk : kindB kind = true) (hk1 : kind ≠ 1) (ha : 1 ≤ amount ∧ amount ≤ 9007199254740992) (gr : Int) (hg : InI gr) (a : Option Addr) (len cap : Nat) (path : List Int) (w : World) (h : ReadsI w a len path) (hp1 : 1 ≤ len) (hp3 : len ≤ 3) :
    Calls Try.prog 77 #[.int .i64 kind, .int .i64 amount, .slice a len cap, .int .i64 gr] w (LegsAt (rawL kind amount gr path) w) := by
  obtain ⟨i0, hi, hz0, hz1, hz2⟩ := info_parts info_leg
  have H := Lib.hid h
  have HL := Lib.hid h.1
  obtain ⟨b, off, rfl, hcell⟩ := h.2.2.2.resolve_left (by omega)
  have HC := Lib.hid hcell
  have HR : Hid (rawL kind amount gr path = rawN kind amount gr path) := Lib.hid (by unfold rawL; rw [if_neg hk1]; rfl)
  have hkb : (kind == 1) = false := by simpa using hk1
  have hkc : (kind != 1) = true := by simpa using hk1
  have HK := Lib.hid hk
  have HA := Lib.hid ha
  have HG := Lib.hid hg
  have HK1 := Lib.hid hk1
  clear h hcell hk hk1 hg
  obtain ⟨ha1, ha2⟩ := ha
  go_enter Try.func77, Try.ntmps77
  go_wp2_with fail
  go_loopw [9, 27] (fun av i wr => ∃ k : Nat, k ≤ len ∧ i = .int .i64 k ∧ Hid (OwnL wr av (rawN kind amount gr (path.take k))) ∧ Hid (∀ q, av.ownBlock = some q → w.heap.size ≤ q) ∧ Hid (Only (fun _ => False) w wr)) (fun _ i _ => len - (intOf i).toNat)
  case atStart => exact ⟨0, by omega, rfl, Lib.hid (OwnL.nil _), Lib.hid (fun q e => by cases e), Lib.hid (Only.refl _ _)⟩
  case round =>
    obtain ⟨k, hk, rfl, HB, HBK, HO⟩ := hrel
    by_cases h8 : k < len
    · have c0 := HO.out.cell' (HC.out k h8) (fun f => f)
      have HS := Lib.hid (rawN_succ kind amount gr path k (by rw [HL.out]; exact h8))
      have HSD := Lib.hid (fun w' => sides_any kind (path.getD k 0) gr HK.out w')
      have hrl := rawN_len kind amount gr (path.take k)
      have htl : (path.take k).length = k := by rw [List.length_take, HL.out]; omega
      rw [htl] at hrl
      have HN : Hid (nodeL kind amount gr (path.getD k 0) = [debL kind amount (path.getD k 0) gr, creL kind amount (path.getD k 0) gr]) := Lib.hid (by unfold nodeL; rw [if_neg HK1.out])
      have HDE := Lib.hid (debL_eq kind amount (path.getD k 0) gr)
      have HCE := Lib.hid (creL_eq kind amount (path.getD k 0) gr)
      unfold Sides accV at HSD
      clear htl
      generalize path.getD k 0 = n at *
      generalize debL kind 0 n gr = dl at *
      generalize creL kind 0 n gr = cl at *
      obtain ⟨dk, dn, dg, da⟩ := dl
      obtain ⟨ck, cn, cg, ca⟩ := cl
      dsimp only at HSD HDE HCE
      have hsz0 := HO.out.size
      go_wp2_with fail
      refine (HSD.out _).mono ?_
      rintro _ w1 ⟨rfl, ho1⟩
      have HO1 := Lib.hid ho1
      have HB1 := Lib.hid (HB.out.only ho1 (fun _ _ f => f))
      have HLT : Hid (∀ q, _ → q < w1.heap.size) := Lib.hid (fun q hq => own_lt HB1.out q hq)
      clear ho1
      generalize rawN kind amount gr (path.take k) = xs at *
      have HP : Hid (OwnL (((w1.alloc (.cells #[.int .i64 dk, .int .i64 dn, .int .i64 dg] 55)).alloc (.cells #[.int .i64 ck, .int .i64 cn, .int .i64 cg] 55)).alloc (.cells #[.int .i64 dk, .int .i64 dn, .int .i64 dg, .int .i64 amount] 106)) _ xs) := Lib.hid (HB1.out.only ((((Only.refl (fun _ => False) w1).alloc _).alloc _).alloc _) (fun _ _ f => f))
      go_wp2_with (at_builtin; refine append_mine rfl _ _ 66 rfl 106 i0 _ 4 32 Try.underlying66 hi hz0 hz1 hz2 rfl (by decide) _ xs.length _ rfl HP.out ⟨w1.heap.size + 1 + 1, 0, none⟩ 1 1 (encL ⟨dk, dn, dg, amount⟩) rfl ?c1 ?c2 ?c3 ?c4 ?c5 ?_)
      case c1 => rfl
      case c2 => exact news_leg (by simp) _
      case c3 => exact lv_one [⟨dk, dn, dg, amount⟩]
      case c4 => unfold maxLen; omega
      case c5 => omega
      intro v2 w2 hown hgrow hkk
      have HLT2 : Hid (∀ q, v2.ownBlock = some q → w.heap.size ≤ q) := Lib.hid (fun q hq => by
        rcases hkk q hq with e | e
        · exact HBK.out q e
        · have := HO1.out.size; omega)
      have HO2 : Hid (Only (fun _ => False) w w2) := Lib.hid ((((HO.out.trans HO1.out).alloc _).alloc _ |>.alloc _).then (Only.of_grown hgrow) (fun q hq e => by have := HBK.out q e; omega))
      have cc : ∀ c v, (#[.int .i64 ck, .int .i64 cn, .int .i64 cg] : Array Value)[c]? = some v → w2.cell? ⟨w1.heap.size + 1, c, none⟩ = some v := fun c v hv =>
        (Only.of_grown hgrow).cell' (p := ⟨w1.heap.size + 1, c, none⟩) (((Only.refl (fun _ => False) _).alloc _).cell' (alloc_new _ _ _ _ _ _ (by simp) hv) (fun f => f)) (fun e => by have := HLT.out _ e; simp at this; omega)
      have cc0 := cc 0 _ rfl
      have cc1 := cc 1 _ rfl
      have cc2 := cc 2 _ rfl
      have HW2 : Hid (OwnL w2 v2 (xs ++ [⟨dk, dn, dg, amount⟩])) := Lib.hid (by
        unfold OwnL
        rw [List.length_append, lv_append]
        exact hown)
      have hs2 := HO2.out.size
      clear hown hgrow hkk cc HP
      have HP2 : Hid (OwnL (w2.alloc (.cells #[.int .i64 ck, .int .i64 cn, .int .i64 cg, .int .i64 (-amount)] 106)) v2 (xs ++ [⟨dk, dn, dg, amount⟩])) := Lib.hid (HW2.out.only ((Only.refl (fun _ => False) w2).alloc _) (fun _ _ f => f))
      have hll : (xs ++ [(⟨dk, dn, dg, amount⟩ : Lg)]).length = xs.length + 1 := by simp
      generalize hys : xs ++ [(⟨dk, dn, dg, amount⟩ : Lg)] = ys at *
      have HY := Lib.hid hys
      clear hys
      have HLL := Lib.hid hll
      clear hll
      go_wp2_with (at_builtin; refine append_mine rfl _ _ 66 rfl 106 i0 _ 4 32 Try.underlying66 hi hz0 hz1 hz2 rfl (by decide) _ ys.length _ rfl HP2.out ⟨w2.heap.size, 0, none⟩ 1 1 (encL ⟨ck, cn, cg, -amount⟩) rfl ?c1 ?c2 ?c3 ?c4 ?c5 ?_)
      case c1 => rfl
      case c2 => exact news_leg rfl _
      case c3 => exact lv_one [⟨ck, cn, cg, -amount⟩]
      case c4 => rw [HLL.out]; unfold maxLen; omega
      case c5 => rw [HLL.out]; omega
      intro v3 w3 hown hgrow hkk
      have HLT3 : Hid (∀ q, v3.ownBlock = some q → w.heap.size ≤ q) := Lib.hid (fun q hq => by
        rcases hkk q hq with e | e
        · exact HLT2.out q e
        · omega)
      have HO3 : Hid (Only (fun _ => False) w w3) := Lib.hid ((HO2.out.alloc _).then (Only.of_grown hgrow) (fun q hq e => by have := HLT2.out q e; omega))
      have HW3 : Hid (OwnL w3 v3 (rawN kind amount gr (path.take (k + 1)))) := Lib.hid (by
        rw [HS.out, HN.out, HDE.out, HCE.out]
        show OwnL w3 v3 (xs ++ ([⟨dk, dn, dg, amount⟩] ++ [⟨ck, cn, cg, -amount⟩]))
        rw [← List.append_assoc, HY.out]
        unfold OwnL
        rw [List.length_append, lv_append]
        exact hown)
      clear hown hgrow hkk HP2 HW2 HS HN HDE HCE HY
      go_wp2_with fail
      go_roundw
      case rel => exact ⟨k + 1, by omega, by go_num, HW3, HLT3, HO3⟩
      case measure => simp [intOf]; omega
    · obtain rfl : k = len := by omega
      have hown := HB.out
      rw [List.take_of_length_le (by rw [HL.out]; omega)] at hown
      have hpl := rawL_pos_len kind amount gr path (by rw [HL.out]; exact hp1)
      have hml := rawL_len kind amount gr path
      have hin := rawL_in kind amount gr HG.out HA.out path (by rw [HL.out]; exact hp3) H.out.2.2.1
      rw [HL.out] at hml
      rw [← HR.out] at hown
      generalize rawL kind amount gr path = ls at *
      obtain ⟨g, cp, hv, _, hgl, hc1, hc2⟩ := owns_form hown hpl
      subst hv
      have hgw : w.heap.size ≤ g := HBK.out g rfl
      have HSO := Lib.hid (sort_any g ls.length cp ls wr hown rfl (by omega) hin)
      clear hown hpl hml hin HB HBK hgl
      go_wp2_with fail
      refine (HSO.out).mono ?_
      rintro _ w2 ⟨ls', rfl, hperm, hsort, hrd, hon⟩
      have hlen : ls.length = ls'.length := hperm.length_eq.symm
      have HF : Hid (LegsAt ls w (.returned (.slice (some ⟨g, 0, none⟩) ls.length cp)) w2) := Lib.hid (by
        rw [hlen] at hrd ⊢
        exact ⟨g, cp, ls', rfl, hperm, hsort, hrd, hgw, HO.out.then hon (fun q hq e => by omega)⟩)
      clear hperm hsort hrd hon hlen HSO
      generalize ls.length = m at *
      go_wp2_with fail
      go_ret
      exact HF.out

set_option maxHeartbeats 2000000 in
theorem legs_1 (amount : Int) (ha : 1 ≤ amount ∧ amount ≤ 9007199254740992) (gr : Int) (hg : InI gr) (a : Option Addr) (len cap : Nat) (path : List Int) (w : World) (h : ReadsI w a len path) (hp1 : 1 ≤ len) (hp3 : len ≤ 3) :
    Calls Try.prog 77 #[.int .i64 1, .int .i64 amount, .slice a len cap, .int .i64 gr] w (LegsAt (rawL 1 amount gr path) w) := by
  obtain ⟨i0, hi, hz0, hz1, hz2⟩ := info_parts info_leg
  have H := Lib.hid h
  have HL := Lib.hid h.1
  obtain ⟨b, off, rfl, hcell⟩ := h.2.2.2.resolve_left (by omega)
  have HC := Lib.hid hcell
  obtain ⟨M, hM, hMb⟩ : ∃ M, amount * (len : Int) = M ∧ 0 ≤ M ∧ M ≤ 27021597764222976 := by
    refine ⟨_, rfl, ?_⟩
    have : len = 1 ∨ len = 2 ∨ len = 3 := by omega
    rcases this with h1 | h1 | h1 <;> rw [h1] <;> omega
  have hMw : wrap64 (amount * (len : Int)) = M := by rw [hM]; unfold wrap64; omega
  have HR : Hid (rawL 1 amount gr path = ⟨1, 0, 0, M⟩ :: rawN 1 amount gr path) := Lib.hid (by unfold rawL; rw [if_pos rfl, h.1, hM]; rfl)
  have HA := Lib.hid ha
  have HG := Lib.hid hg
  clear h hcell hg hM hMb
  obtain ⟨ha1, ha2⟩ := ha
  go_enter Try.func77, Try.ntmps77
  have HP0 : Hid (OwnL (w.alloc (.cells #[.int .i64 1, .int .i64 0, .int .i64 0, .int .i64 M] 106)) (.slice none 0 0) []) := Lib.hid (OwnL.nil _)
  go_wp2_with (at_builtin; refine append_mine rfl _ _ 66 rfl 106 i0 _ 4 32 Try.underlying66 hi hz0 hz1 hz2 rfl (by decide) _ 0 _ rfl HP0.out ⟨w.heap.size, 0, none⟩ 1 1 (encL ⟨1, 0, 0, M⟩) rfl ?c1 ?c2 ?c3 ?c4 ?c5 ?_)
  case c1 => rfl
  case c2 => exact news_leg rfl _
  case c3 => exact lv_one [⟨1, 0, 0, M⟩]
  case c4 => unfold maxLen; omega
  case c5 => omega
  intro v2 w2 hown hgrow hkk
  have HLT2 : Hid (∀ q, v2.ownBlock = some q → w.heap.size ≤ q) := Lib.hid (fun q hq => by
    rcases hkk q hq with e | e
    · cases e
    · omega)
  have HO2 : Hid (Only (fun _ => False) w w2) := Lib.hid (((Only.refl _ w).alloc _).then (Only.of_grown hgrow) (fun q hq e => by cases e))
  have HW2 : Hid (OwnL w2 v2 (⟨1, 0, 0, M⟩ :: rawN 1 amount gr (path.take 0))) := Lib.hid hown
  clear hown hgrow hkk HP0 hMw
  go_wp2_with fail
  go_loopw [9, 27] (fun av i wr => ∃ k : Nat, k ≤ len ∧ i = .int .i64 k ∧ Hid (OwnL wr av (⟨1, 0, 0, M⟩ :: rawN 1 amount gr (path.take k))) ∧ Hid (∀ q, av.ownBlock = some q → w.heap.size ≤ q) ∧ Hid (Only (fun _ => False) w wr)) (fun _ i _ => len - (intOf i).toNat)
  case atStart => exact ⟨0, by omega, rfl, HW2, HLT2, HO2⟩
  case round =>
    clear HW2 HLT2 HO2
    obtain ⟨k, hk, rfl, HB, HBK, HO⟩ := hrel
    by_cases h8 : k < len
    · have c0 := HO.out.cell' (HC.out k h8) (fun f => f)
      have HS := Lib.hid (rawN_succ 1 amount gr path k (by rw [HL.out]; exact h8))
      have HSD := Lib.hid (fun w' => sides_any 1 (path.getD k 0) gr rfl w')
      have hrl := rawN_len 1 amount gr (path.take k)
      have htl : (path.take k).length = k := by rw [List.length_take, HL.out]; omega
      rw [htl] at hrl
      have HN : Hid (nodeL 1 amount gr (path.getD k 0) = [creL 1 amount (path.getD k 0) gr]) := Lib.hid (by unfold nodeL; rw [if_pos rfl])
      have HCE := Lib.hid (creL_eq 1 amount (path.getD k 0) gr)
      unfold Sides accV at HSD
      clear htl
      generalize path.getD k 0 = n at *
      generalize debL 1 0 n gr = dl at *
      generalize creL 1 0 n gr = cl at *
      obtain ⟨dk, dn, dg, da⟩ := dl
      obtain ⟨ck, cn, cg, ca⟩ := cl
      dsimp only at HSD HCE
      have hsz0 := HO.out.size
      go_wp2_with fail
      refine (HSD.out _).mono ?_
      rintro _ w1 ⟨rfl, ho1⟩
      have HO1 := Lib.hid ho1
      have HB1 := Lib.hid (HB.out.only ho1 (fun _ _ f => f))
      clear ho1
      generalize hxs : (⟨1, 0, 0, M⟩ : Lg) :: rawN 1 amount gr (path.take k) = xs at *
      have hxl : xs.length ≤ 1 + 2 * k := by rw [← hxs, List.length_cons]; omega
      have HXS := Lib.hid hxs
      clear hxs hrl
      have HP : Hid (OwnL (((w1.alloc (.cells #[.int .i64 dk, .int .i64 dn, .int .i64 dg] 55)).alloc (.cells #[.int .i64 ck, .int .i64 cn, .int .i64 cg] 55)).alloc (.cells #[.int .i64 ck, .int .i64 cn, .int .i64 cg, .int .i64 (-amount)] 106)) _ xs) := Lib.hid (HB1.out.only ((((Only.refl (fun _ => False) w1).alloc _).alloc _).alloc _) (fun _ _ f => f))
      go_wp2_with (at_builtin; refine append_mine rfl _ _ 66 rfl 106 i0 _ 4 32 Try.underlying66 hi hz0 hz1 hz2 rfl (by decide) _ xs.length _ rfl HP.out ⟨w1.heap.size + 1 + 1, 0, none⟩ 1 1 (encL ⟨ck, cn, cg, -amount⟩) rfl ?c1 ?c2 ?c3 ?c4 ?c5 ?_)
      case c1 => rfl
      case c2 => exact news_leg (by simp) _
      case c3 => exact lv_one [⟨ck, cn, cg, -amount⟩]
      case c4 => unfold maxLen; omega
      case c5 => omega
      intro v3 w3 hown hgrow hkk
      have HLT3 : Hid (∀ q, v3.ownBlock = some q → w.heap.size ≤ q) := Lib.hid (fun q hq => by
        rcases hkk q hq with e | e
        · exact HBK.out q e
        · have := HO1.out.size; omega)
      have HO3 : Hid (Only (fun _ => False) w w3) := Lib.hid ((((HO.out.trans HO1.out).alloc _).alloc _ |>.alloc _).then (Only.of_grown hgrow) (fun q hq e => by have := HBK.out q e; omega))
      have HW3 : Hid (OwnL w3 v3 (⟨1, 0, 0, M⟩ :: rawN 1 amount gr (path.take (k + 1)))) := Lib.hid (by
        rw [HS.out, HN.out, HCE.out]
        show OwnL w3 v3 ((⟨1, 0, 0, M⟩ :: rawN 1 amount gr (path.take k)) ++ [⟨ck, cn, cg, -amount⟩])
        rw [HXS.out]
        unfold OwnL
        rw [List.length_append, lv_append]
        exact hown)
      clear hown hgrow hkk HP HS HN HCE
      go_wp2_with fail
      go_roundw
      case rel => exact ⟨k + 1, by omega, by go_num, HW3, HLT3, HO3⟩
      case measure => simp [intOf]; omega
    · obtain rfl : k = len := by omega
      have hown := HB.out
      rw [List.take_of_length_le (by rw [HL.out]; omega)] at hown
      have hpl := rawL_pos_len 1 amount gr path (by rw [HL.out]; exact hp1)
      have hml := rawL_len 1 amount gr path
      have hin := rawL_in 1 amount gr HG.out HA.out path (by rw [HL.out]; exact hp3) H.out.2.2.1
      rw [HL.out] at hml
      rw [← HR.out] at hown
      generalize rawL 1 amount gr path = ls at *
      obtain ⟨g, cp, hv, _, hgl, hc1, hc2⟩ := owns_form hown hpl
      subst hv
      have hgw : w.heap.size ≤ g := HBK.out g rfl
      have HSO := Lib.hid (sort_any g ls.length cp ls wr hown rfl (by omega) hin)
      clear hown hpl hml hin HB HBK hgl
      go_wp2_with fail
      refine (HSO.out).mono ?_
      rintro _ w2 ⟨ls', rfl, hperm, hsort, hrd, hon⟩
      have hlen : ls.length = ls'.length := hperm.length_eq.symm
      have HF : Hid (LegsAt ls w (.returned (.slice (some ⟨g, 0, none⟩) ls.length cp)) w2) := Lib.hid (by
        rw [hlen] at hrd ⊢
        exact ⟨g, cp, ls', rfl, hperm, hsort, hrd, hgw, HO.out.then hon (fun q hq e => by omega)⟩)
      clear hperm hsort hrd hon hlen HSO
      generalize ls.length = m at *
      go_wp2_with fail
      go_ret
      exact HF.out

theorem legs_any (kind amount : Int) (hk : kindB kind = true) (ha : 1 ≤ amount ∧ amount ≤ 9007199254740992) (gr : Int) (hg : InI gr) (a : Option Addr) (len cap : Nat) (path : List Int) (w : World) (h : ReadsI w a len path) (hp1 : 1 ≤ len) (hp3 : len ≤ 3) :
    Calls Try.prog 77 #[.int .i64 kind, .int .i64 amount, .slice a len cap, .int .i64 gr] w (LegsAt (rawL kind amount gr path) w) := by
  by_cases h1 : kind = 1
  · subst h1; exact legs_1 amount ha gr hg a len cap path w h hp1 hp3
  · exact legs_n kind amount hk h1 ha gr hg a len cap path w h hp1 hp3
end Go.Proofs.Ytkbaafgaaiekpaa.entw
