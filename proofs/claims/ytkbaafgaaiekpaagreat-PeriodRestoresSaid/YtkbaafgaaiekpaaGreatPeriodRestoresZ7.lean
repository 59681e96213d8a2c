/- Several texts together: EntF, EntG, EntH, EntI, EntK, EntL, EntQ. -/
import Derived.Test.YtkbaafgaaiekpaaGreatPeriodRestoresZ6
import Derived.Shelf.SlicesE.Clone
import Derived.StillTailTactics
open Go.Lib (hid)
namespace Go.Proofs.YtkbaafgaaiekpaaGreat.entw
open Go.RowKit mem entm
set_option linter.unusedVariables false
theorem info_leg : (Tryz.prog.info? 96).map (fun i => (i.zero, i.size, i.bytes)) = some (some (.agg #[.int .i64 0, .int .i64 0, .int .i64 0, .int .i64 0]), 4, 32) := by kernel_rfl
theorem rawN_succ (kind amount g : Int) (path : List Int) (k : Nat) (h : k < path.length) : rawN kind amount g (path.take (k + 1)) = rawN kind amount g (path.take k) ++ nodeL kind amount g (path.getD k 0) := by
  have : path.getD k 0 = path[k] := (by simp [List.getD, h]); unfold rawN; rw [List.take_succ_eq_append_getElem h, List.flatMap_append, List.flatMap_singleton, this]
theorem rawN_len (kind amount g : Int) (path : List Int) : (rawN kind amount g path).length ≤ 2 * path.length := by
  induction path with
  | nil => simp [rawN]
  | cons x r ih =>
    have e : rawN kind amount g (x :: r) = nodeL kind amount g x ++ rawN kind amount g r := (by simp [rawN]); have h2 : (nodeL kind amount g x).length ≤ 2 := by unfold nodeL; split <;> simp
    rw [e, List.length_append, List.length_cons]; omega
def InL (l : Lg) : Prop := InI l.k ∧ InI l.n ∧ InI l.g ∧ InI l.a
theorem creL_in (kind amount n g : Int) (hn : InI n) (hg : InI g) (ha : 1 ≤ amount ∧ amount ≤ 9007199254740992) : InL (creL kind amount n g) := by
  unfold creL InL InI at *
  repeat' split
  all_goals (dsimp only; omega)
theorem debL_in (kind amount n g : Int) (hn : InI n) (hg : InI g) (ha : 1 ≤ amount ∧ amount ≤ 9007199254740992) : InL (debL kind amount n g) := by
  unfold debL InL InI at *
  repeat' split
  all_goals (dsimp only; omega)
theorem rawN_in (kind amount g : Int) (hg : InI g) (ha : 1 ≤ amount ∧ amount ≤ 9007199254740992) (path : List Int) (hp : ∀ n ∈ path, InI n) : ∀ l ∈ rawN kind amount g path, InL l := by
  intro l hl; unfold rawN at hl; rw [List.mem_flatMap] at hl; obtain ⟨n, hn, hl⟩ := hl; unfold nodeL at hl; split at hl
  · rw [List.mem_singleton] at hl; rw [hl]; exact creL_in _ _ _ _ (hp n hn) hg ha
  · rw [List.mem_cons, List.mem_singleton] at hl; rcases hl with rfl | rfl
    · exact debL_in _ _ _ _ (hp n hn) hg ha
    · exact creL_in _ _ _ _ (hp n hn) hg ha
theorem rawL_in (kind amount g : Int) (hg : InI g) (ha : 1 ≤ amount ∧ amount ≤ 9007199254740992) (path : List Int) (h3 : path.length ≤ 3) (hp : ∀ n ∈ path, InI n) : ∀ l ∈ rawL kind amount g path, InL l := by
  intro l hl; unfold rawL at hl; rw [List.mem_append] at hl; rcases hl with hl | hl
  · split at hl
    · rw [List.mem_singleton] at hl; rw [hl]; have h1 : path.length = 0 ∨ path.length = 1 ∨ path.length = 2 ∨ path.length = 3 := (by omega); unfold InL InI; rcases h1 with h1 | h1 | h1 | h1 <;> rw [h1] <;> (dsimp only; omega)
    · cases hl
  · exact rawN_in kind amount g hg ha path hp l hl
theorem rawL_len (kind amount g : Int) (path : List Int) : (rawL kind amount g path).length ≤ 1 + 2 * path.length := by
  have := rawN_len kind amount g path; unfold rawL; rw [List.length_append]; split
  · rw [List.length_singleton]; omega
  · simp; omega
theorem rawL_pos_len (kind amount g : Int) (path : List Int) (h : 1 ≤ path.length) : 1 ≤ (rawL kind amount g path).length := by
  unfold rawL; rw [List.length_append]
  cases path with
  | nil => simp at h
  | cons x r =>
    have e : rawN kind amount g (x :: r) = nodeL kind amount g x ++ rawN kind amount g r := (by simp [rawN]); have h2 : 1 ≤ (nodeL kind amount g x).length := by unfold nodeL; split <;> simp
    rw [e, List.length_append]; omega
theorem news_leg {W : World} {g : Nat} {k n gg a : Int} (hg : g = W.heap.size) (t : TypeId) : ∀ j u, (encL ⟨k, n, gg, a⟩)[j]? = some u → (W.alloc (.cells #[.int .i64 k, .int .i64 n, .int .i64 gg, .int .i64 a] t)).cell? ((Addr.mk g 0 none).add j) = some u := by
  intro j u hu; rw [add_none, Nat.zero_add]; exact alloc_new _ _ _ _ _ _ hg (by rw [← List.getElem?_toArray] at hu; exact hu)
theorem own_lt {w : World} {v : Value} {ls : List Lg} (h : OwnL w v ls) (k : Nat) (hk : v.ownBlock = some k) : k < w.heap.size := (World.ownsRow.lt h k hk).2
def LegsAt (raw : List Lg) (w : World) (e : Ending) (w' : World) : Prop :=
  ∃ g cap ls, e = .returned (.slice (some ⟨g, 0, none⟩) ls.length cap) ∧ ls.Perm raw ∧ Sorted ls ∧ ReadsL w' (some ⟨g, 0, none⟩) ls.length ls ∧ w.heap.size ≤ g ∧ Only (fun _ => False) w w'
set_option maxHeartbeats 8000000 in
theorem legs_n (kind amount : Int) (hk : kindB kind = true) (hk1 : kind ≠ 1) (ha : 1 ≤ amount ∧ amount ≤ 9007199254740992) (gr : Int) (hg : InI gr) (a : Option Addr) (len cap : Nat) (path : List Int) (w : World) (h : ReadsI w a len path) (hp1 : 1 ≤ len) (hp3 : len ≤ 3) :
    Calls Tryz.prog 98 #[.int .i64 kind, .int .i64 amount, .slice a len cap, .int .i64 gr] w (LegsAt (rawL kind amount gr path) w) := by
  obtain ⟨i0, hi, hz0, hz1, hz2⟩ := info_parts info_leg; have H := hid h; have HL := hid h.1; obtain ⟨b, off, rfl, hcell⟩ := h.2.2.2.resolve_left (by omega); have HC := hid hcell; have HR : Hid (rawL kind amount gr path = rawN kind amount gr path) := hid (by unfold rawL; rw [if_neg hk1]; rfl); have hkb : (kind == 1) = false := (by simpa using hk1); have hkc : (kind != 1) = true := (by simpa using hk1); have HK := hid hk; have HA := hid ha; have HG := hid hg; have HK1 := hid hk1; clear h hcell hk hk1 hg; obtain ⟨ha1, ha2⟩ := ha; go_enter Tryz.func98, Tryz.ntmps98
  go_wp2_with fail
  go_loopw [9, 27] (fun av i wr => ∃ k : Nat, k ≤ len ∧ i = .int .i64 k ∧ Hid (OwnL wr av (rawN kind amount gr (path.take k))) ∧ Hid (∀ q, av.ownBlock = some q → w.heap.size ≤ q) ∧ Hid (Only (fun _ => False) w wr)) (fun _ i _ => len - (intOf i).toNat)
  case atStart => exact ⟨0, by omega, rfl, hid (OwnL.nil _), hid (fun q e => by cases e), hid (Only.refl _ _)⟩
  case round =>
    obtain ⟨k, hk, rfl, HB, HBK, HO⟩ := hrel
    by_cases h8 : k < len
    · have c0 := HO.out.cell' (HC.out k h8) (fun f => f); have HS := hid (rawN_succ kind amount gr path k (by rw [HL.out]; exact h8)); have HSD := hid (fun w' => sides_any kind (path.getD k 0) gr HK.out w'); have hrl := rawN_len kind amount gr (path.take k); have htl : (path.take k).length = k := (by rw [List.length_take, HL.out]; omega); rw [htl] at hrl; have HN : Hid (nodeL kind amount gr (path.getD k 0) = [debL kind amount (path.getD k 0) gr, creL kind amount (path.getD k 0) gr]) := hid (by unfold nodeL; rw [if_neg HK1.out]); have HDE := hid (debL_eq kind amount (path.getD k 0) gr); have HCE := hid (creL_eq kind amount (path.getD k 0) gr); unfold Sides accV at HSD; clear htl; generalize path.getD k 0 = n at *; generalize debL kind 0 n gr = dl at *; generalize creL kind 0 n gr = cl at *; obtain ⟨dk, dn, dg, da⟩ := dl; obtain ⟨ck, cn, cg, ca⟩ := cl; dsimp only at HSD HDE HCE; have hsz0 := HO.out.size; (go_wp2_with fail); refine (HSD.out _).mono ?_; rintro _ w1 ⟨rfl, ho1⟩; have HO1 := hid ho1; have HB1 := hid (HB.out.only ho1 (fun _ _ f => f)); have HLT : Hid (∀ q, _ → q < w1.heap.size) := hid (fun q hq => own_lt HB1.out q hq); clear ho1; generalize rawN kind amount gr (path.take k) = xs at *; have HP : Hid (OwnL (((w1.alloc (.cells #[.int .i64 dk, .int .i64 dn, .int .i64 dg] 56)).alloc (.cells #[.int .i64 ck, .int .i64 cn, .int .i64 cg] 56)).alloc (.cells #[.int .i64 dk, .int .i64 dn, .int .i64 dg, .int .i64 amount] 96)) _ xs) := hid (HB1.out.only ((((Only.refl (fun _ => False) w1).alloc _).alloc _).alloc _) (fun _ _ f => f)); go_wp2_with (at_builtin; refine append_mine rfl _ _ 65 rfl 96 i0 _ 4 32 Tryz.underlying65 hi hz0 hz1 hz2 rfl (by decide) _ xs.length _ rfl HP.out ⟨w1.heap.size + 1 + 1, 0, none⟩ 1 1 (encL ⟨dk, dn, dg, amount⟩) rfl ?c1 ?c2 ?c3 ?c4 ?c5 ?_)
      case c1 => rfl
      case c2 => exact news_leg (by simp) _
      case c3 => exact lv_one [⟨dk, dn, dg, amount⟩]
      case c4 => unfold maxLen; omega
      case c5 => omega
      intro v2 w2 hown hgrow hkk; have HLT2 : Hid (∀ q, v2.ownBlock = some q → w.heap.size ≤ q) := hid (fun q hq => by
        rcases hkk q hq with e | e
        · exact HBK.out q e
        · have := HO1.out.size; omega)
      have HO2 : Hid (Only (fun _ => False) w w2) := hid ((((HO.out.trans HO1.out).alloc _).alloc _ |>.alloc _).then (Only.of_grown hgrow) (fun q hq e => by have := HBK.out q e; omega)); have cc : ∀ c v, (#[.int .i64 ck, .int .i64 cn, .int .i64 cg] : Array Value)[c]? = some v → w2.cell? ⟨w1.heap.size + 1, c, none⟩ = some v := fun c v hv =>
        (Only.of_grown hgrow).cell' (p := ⟨w1.heap.size + 1, c, none⟩) (((Only.refl (fun _ => False) _).alloc _).cell' (alloc_new _ _ _ _ _ _ (by simp) hv) (fun f => f)) (fun e => by have := HLT.out _ e; simp at this; omega)
      have cc0 := cc 0 _ rfl; have cc1 := cc 1 _ rfl; have cc2 := cc 2 _ rfl; have HW2 : Hid (OwnL w2 v2 (xs ++ [⟨dk, dn, dg, amount⟩])) := hid (by
        unfold OwnL; rw [List.length_append, lv_append]; exact hown)
      have hs2 := HO2.out.size; clear hown hgrow hkk cc HP; have HP2 : Hid (OwnL (w2.alloc (.cells #[.int .i64 ck, .int .i64 cn, .int .i64 cg, .int .i64 (-amount)] 96)) v2 (xs ++ [⟨dk, dn, dg, amount⟩])) := hid (HW2.out.only ((Only.refl (fun _ => False) w2).alloc _) (fun _ _ f => f)); have hll : (xs ++ [(⟨dk, dn, dg, amount⟩ : Lg)]).length = xs.length + 1 := (by simp); generalize hys : xs ++ [(⟨dk, dn, dg, amount⟩ : Lg)] = ys at *; have HY := hid hys; clear hys; have HLL := hid hll; clear hll; go_wp2_with (at_builtin; refine append_mine rfl _ _ 65 rfl 96 i0 _ 4 32 Tryz.underlying65 hi hz0 hz1 hz2 rfl (by decide) _ ys.length _ rfl HP2.out ⟨w2.heap.size, 0, none⟩ 1 1 (encL ⟨ck, cn, cg, -amount⟩) rfl ?c1 ?c2 ?c3 ?c4 ?c5 ?_)
      case c1 => rfl
      case c2 => exact news_leg rfl _
      case c3 => exact lv_one [⟨ck, cn, cg, -amount⟩]
      case c4 => rw [HLL.out]; unfold maxLen; omega
      case c5 => rw [HLL.out]; omega
      intro v3 w3 hown hgrow hkk; have HLT3 : Hid (∀ q, v3.ownBlock = some q → w.heap.size ≤ q) := hid (fun q hq => by
        rcases hkk q hq with e | e
        · exact HLT2.out q e
        · omega)
      have HO3 : Hid (Only (fun _ => False) w w3) := hid ((HO2.out.alloc _).then (Only.of_grown hgrow) (fun q hq e => by have := HLT2.out q e; omega)); have HW3 : Hid (OwnL w3 v3 (rawN kind amount gr (path.take (k + 1)))) := hid (by
        rw [HS.out, HN.out, HDE.out, HCE.out]; show OwnL w3 v3 (xs ++ ([⟨dk, dn, dg, amount⟩] ++ [⟨ck, cn, cg, -amount⟩])); rw [← List.append_assoc, HY.out]; unfold OwnL; rw [List.length_append, lv_append]; exact hown)
      clear hown hgrow hkk HP2 HW2 HS HN HDE HCE HY; (go_wp2_with fail); go_roundw
      case rel => exact ⟨k + 1, by omega, by go_num, HW3, HLT3, HO3⟩
      case measure => simp [intOf]; omega
    · obtain rfl : k = len := (by omega); have hown := HB.out; rw [List.take_of_length_le (by rw [HL.out]; omega)] at hown; have hpl := rawL_pos_len kind amount gr path (by rw [HL.out]; exact hp1); have hml := rawL_len kind amount gr path; have hin := rawL_in kind amount gr HG.out HA.out path (by rw [HL.out]; exact hp3) H.out.2.2.1; rw [HL.out] at hml; rw [← HR.out] at hown; generalize rawL kind amount gr path = ls at *; obtain ⟨g, cp, hv, _, hgl, hc1, hc2⟩ := owns_form hown hpl; subst hv; have hgw : w.heap.size ≤ g := HBK.out g rfl; have HSO := hid (sort_any g ls.length cp ls wr hown rfl (by omega) hin); clear hown hpl hml hin HB HBK hgl; (go_wp2_with fail); refine (HSO.out).mono ?_; rintro _ w2 ⟨ls', rfl, hperm, hsort, hrd, hon⟩; have hlen : ls.length = ls'.length := hperm.length_eq.symm; have HF : Hid (LegsAt ls w (.returned (.slice (some ⟨g, 0, none⟩) ls.length cp)) w2) := hid (by
        rw [hlen] at hrd ⊢; exact ⟨g, cp, ls', rfl, hperm, hsort, hrd, hgw, HO.out.then hon (fun q hq e => by omega)⟩)
      clear hperm hsort hrd hon hlen HSO; generalize ls.length = m at *; (go_wp2_with fail); go_ret
      exact HF.out
set_option maxHeartbeats 8000000 in
theorem legs_1 (amount : Int) (ha : 1 ≤ amount ∧ amount ≤ 9007199254740992) (gr : Int) (hg : InI gr) (a : Option Addr) (len cap : Nat) (path : List Int) (w : World) (h : ReadsI w a len path) (hp1 : 1 ≤ len) (hp3 : len ≤ 3) :
    Calls Tryz.prog 98 #[.int .i64 1, .int .i64 amount, .slice a len cap, .int .i64 gr] w (LegsAt (rawL 1 amount gr path) w) := by
  obtain ⟨i0, hi, hz0, hz1, hz2⟩ := info_parts info_leg; have H := hid h; have HL := hid h.1; obtain ⟨b, off, rfl, hcell⟩ := h.2.2.2.resolve_left (by omega); have HC := hid hcell; obtain ⟨M, hM, hMb⟩ : ∃ M, amount * (len : Int) = M ∧ 0 ≤ M ∧ M ≤ 27021597764222976 := by
    refine ⟨_, rfl, ?_⟩; have : len = 1 ∨ len = 2 ∨ len = 3 := (by omega); rcases this with h1 | h1 | h1 <;> rw [h1] <;> omega
  have hMw : wrap64 (amount * (len : Int)) = M := (by rw [hM]; unfold wrap64; omega); have HR : Hid (rawL 1 amount gr path = ⟨1, 0, 0, M⟩ :: rawN 1 amount gr path) := hid (by unfold rawL; rw [if_pos rfl, h.1, hM]; rfl); have HA := hid ha; have HG := hid hg; clear h hcell hg hM hMb; obtain ⟨ha1, ha2⟩ := ha; go_enter Tryz.func98, Tryz.ntmps98
  have HP0 : Hid (OwnL (w.alloc (.cells #[.int .i64 1, .int .i64 0, .int .i64 0, .int .i64 M] 96)) (.slice none 0 0) []) := hid (OwnL.nil _); go_wp2_with (at_builtin; refine append_mine rfl _ _ 65 rfl 96 i0 _ 4 32 Tryz.underlying65 hi hz0 hz1 hz2 rfl (by decide) _ 0 _ rfl HP0.out ⟨w.heap.size, 0, none⟩ 1 1 (encL ⟨1, 0, 0, M⟩) rfl ?c1 ?c2 ?c3 ?c4 ?c5 ?_)
  case c1 => rfl
  case c2 => exact news_leg rfl _
  case c3 => exact lv_one [⟨1, 0, 0, M⟩]
  case c4 => unfold maxLen; omega
  case c5 => omega
  intro v2 w2 hown hgrow hkk; have HLT2 : Hid (∀ q, v2.ownBlock = some q → w.heap.size ≤ q) := hid (fun q hq => by
    rcases hkk q hq with e | e
    · cases e
    · omega)
  have HO2 : Hid (Only (fun _ => False) w w2) := hid (((Only.refl _ w).alloc _).then (Only.of_grown hgrow) (fun q hq e => by cases e)); have HW2 : Hid (OwnL w2 v2 (⟨1, 0, 0, M⟩ :: rawN 1 amount gr (path.take 0))) := hid hown; clear hown hgrow hkk HP0 hMw; go_wp2_with fail
  go_loopw [9, 27] (fun av i wr => ∃ k : Nat, k ≤ len ∧ i = .int .i64 k ∧ Hid (OwnL wr av (⟨1, 0, 0, M⟩ :: rawN 1 amount gr (path.take k))) ∧ Hid (∀ q, av.ownBlock = some q → w.heap.size ≤ q) ∧ Hid (Only (fun _ => False) w wr)) (fun _ i _ => len - (intOf i).toNat)
  case atStart => exact ⟨0, by omega, rfl, HW2, HLT2, HO2⟩
  case round =>
    clear HW2 HLT2 HO2; obtain ⟨k, hk, rfl, HB, HBK, HO⟩ := hrel
    by_cases h8 : k < len
    · have c0 := HO.out.cell' (HC.out k h8) (fun f => f); have HS := hid (rawN_succ 1 amount gr path k (by rw [HL.out]; exact h8)); have HSD := hid (fun w' => sides_any 1 (path.getD k 0) gr rfl w'); have hrl := rawN_len 1 amount gr (path.take k); have htl : (path.take k).length = k := (by rw [List.length_take, HL.out]; omega); rw [htl] at hrl; have HN : Hid (nodeL 1 amount gr (path.getD k 0) = [creL 1 amount (path.getD k 0) gr]) := hid (by unfold nodeL; rw [if_pos rfl]); have HCE := hid (creL_eq 1 amount (path.getD k 0) gr); unfold Sides accV at HSD; clear htl; generalize path.getD k 0 = n at *; generalize debL 1 0 n gr = dl at *; generalize creL 1 0 n gr = cl at *; obtain ⟨dk, dn, dg, da⟩ := dl; obtain ⟨ck, cn, cg, ca⟩ := cl; dsimp only at HSD HCE; have hsz0 := HO.out.size; (go_wp2_with fail); refine (HSD.out _).mono ?_; rintro _ w1 ⟨rfl, ho1⟩; have HO1 := hid ho1; have HB1 := hid (HB.out.only ho1 (fun _ _ f => f)); clear ho1; generalize hxs : (⟨1, 0, 0, M⟩ : Lg) :: rawN 1 amount gr (path.take k) = xs at *; have hxl : xs.length ≤ 1 + 2 * k := (by rw [← hxs, List.length_cons]; omega); have HXS := hid hxs; clear hxs hrl; have HP : Hid (OwnL (((w1.alloc (.cells #[.int .i64 dk, .int .i64 dn, .int .i64 dg] 56)).alloc (.cells #[.int .i64 ck, .int .i64 cn, .int .i64 cg] 56)).alloc (.cells #[.int .i64 ck, .int .i64 cn, .int .i64 cg, .int .i64 (-amount)] 96)) _ xs) := hid (HB1.out.only ((((Only.refl (fun _ => False) w1).alloc _).alloc _).alloc _) (fun _ _ f => f)); go_wp2_with (at_builtin; refine append_mine rfl _ _ 65 rfl 96 i0 _ 4 32 Tryz.underlying65 hi hz0 hz1 hz2 rfl (by decide) _ xs.length _ rfl HP.out ⟨w1.heap.size + 1 + 1, 0, none⟩ 1 1 (encL ⟨ck, cn, cg, -amount⟩) rfl ?c1 ?c2 ?c3 ?c4 ?c5 ?_)
      case c1 => rfl
      case c2 => exact news_leg (by simp) _
      case c3 => exact lv_one [⟨ck, cn, cg, -amount⟩]
      case c4 => unfold maxLen; omega
      case c5 => omega
      intro v3 w3 hown hgrow hkk; have HLT3 : Hid (∀ q, v3.ownBlock = some q → w.heap.size ≤ q) := hid (fun q hq => by
        rcases hkk q hq with e | e
        · exact HBK.out q e
        · have := HO1.out.size; omega)
      have HO3 : Hid (Only (fun _ => False) w w3) := hid ((((HO.out.trans HO1.out).alloc _).alloc _ |>.alloc _).then (Only.of_grown hgrow) (fun q hq e => by have := HBK.out q e; omega)); have HW3 : Hid (OwnL w3 v3 (⟨1, 0, 0, M⟩ :: rawN 1 amount gr (path.take (k + 1)))) := hid (by
        rw [HS.out, HN.out, HCE.out]; show OwnL w3 v3 ((⟨1, 0, 0, M⟩ :: rawN 1 amount gr (path.take k)) ++ [⟨ck, cn, cg, -amount⟩]); rw [HXS.out]; unfold OwnL; rw [List.length_append, lv_append]; exact hown)
      clear hown hgrow hkk HP HS HN HCE; (go_wp2_with fail); go_roundw
      case rel => exact ⟨k + 1, by omega, by go_num, HW3, HLT3, HO3⟩
      case measure => simp [intOf]; omega
    · obtain rfl : k = len := (by omega); have hown := HB.out; rw [List.take_of_length_le (by rw [HL.out]; omega)] at hown; have hpl := rawL_pos_len 1 amount gr path (by rw [HL.out]; exact hp1); have hml := rawL_len 1 amount gr path; have hin := rawL_in 1 amount gr HG.out HA.out path (by rw [HL.out]; exact hp3) H.out.2.2.1; rw [HL.out] at hml; rw [← HR.out] at hown; generalize rawL 1 amount gr path = ls at *; obtain ⟨g, cp, hv, _, hgl, hc1, hc2⟩ := owns_form hown hpl; subst hv; have hgw : w.heap.size ≤ g := HBK.out g rfl; have HSO := hid (sort_any g ls.length cp ls wr hown rfl (by omega) hin); clear hown hpl hml hin HB HBK hgl; (go_wp2_with fail); refine (HSO.out).mono ?_; rintro _ w2 ⟨ls', rfl, hperm, hsort, hrd, hon⟩; have hlen : ls.length = ls'.length := hperm.length_eq.symm; have HF : Hid (LegsAt ls w (.returned (.slice (some ⟨g, 0, none⟩) ls.length cp)) w2) := hid (by
        rw [hlen] at hrd ⊢; exact ⟨g, cp, ls', rfl, hperm, hsort, hrd, hgw, HO.out.then hon (fun q hq e => by omega)⟩)
      clear hperm hsort hrd hon hlen HSO; generalize ls.length = m at *; (go_wp2_with fail); go_ret
      exact HF.out
theorem legs_any (kind amount : Int) (hk : kindB kind = true) (ha : 1 ≤ amount ∧ amount ≤ 9007199254740992) (gr : Int) (hg : InI gr) (a : Option Addr) (len cap : Nat) (path : List Int) (w : World) (h : ReadsI w a len path) (hp1 : 1 ≤ len) (hp3 : len ≤ 3) :
    Calls Tryz.prog 98 #[.int .i64 kind, .int .i64 amount, .slice a len cap, .int .i64 gr] w (LegsAt (rawL kind amount gr path) w) := by
  by_cases h1 : kind = 1
  · subst h1; exact legs_1 amount ha gr hg a len cap path w h hp1 hp3
  · exact legs_n kind amount hk h1 ha gr hg a len cap path w h hp1 hp3
def NotMade (c : Int) (w : World) (e : Ending) (w' : World) : Prop := e = .returned (.tuple #[.agg #[.int .i64 0, .slice none 0 0], .int .i64 c]) ∧ Only (fun _ => False) w w'
def amB (amount : Int) : Prop := 1 ≤ amount ∧ amount ≤ 9007199254740992
instance (n : Int) : Decidable (amB n) := inferInstanceAs (Decidable (_ ∧ _))
def mkNo (kind amount : Int) (path : List Int) : Int := if kindB kind = false then 21 else if ¬ amB amount ∨ pathB path = false then 1 else 0
set_option maxHeartbeats 8000000 in
theorem make_no (kind amount gr : Int) (a : Option Addr) (len cap : Nat) (path : List Int) (w : World) (h : ReadsI w a len path) (hlc : len ≤ cap) (hcm : cap ≤ 9223372036854775807) (hno : mkNo kind amount path ≠ 0) :
    Calls Tryz.prog 70 #[.int .i64 kind, .int .i64 amount, .slice a len cap, .int .i64 gr] w (NotMade (mkNo kind amount path) w) := by
  have HO : Hid (∀ o, Only (fun _ => False) w (w.alloc o)) := hid (fun o => (Only.refl _ w).alloc o)
  cases hk : kindB kind with
  | false =>
    have HR : Hid (mkNo kind amount path = 21) := hid (by unfold mkNo; rw [if_pos hk]); have HK := hid hk; clear hk hno; go_enter Tryz.func70, Tryz.ntmps70
    (go_wp2_with fail); refine (kind_any _ _).mono ?_; rintro _ _ ⟨rfl, rfl⟩; rw [HK.out]; (go_wp2_with fail); rw [HR.out]; refine bodyPost_ret (v := .tuple #[.agg #[.int .i64 0, .slice none 0 0], .int .i64 21]) (by simp [results, Tryz.results70, go_sem]) rfl ⟨rfl, HO.out _⟩
  | true =>
    have HK := hid hk
    by_cases h1 : amount < 1
    · have HR : Hid (mkNo kind amount path = 1) := hid (by unfold mkNo; rw [hk, if_neg (by simp), if_pos (.inl (by unfold amB; omega))]); clear hk hno; go_enter Tryz.func70, Tryz.ntmps70
      (go_wp2_with fail); refine (kind_any _ _).mono ?_; rintro _ _ ⟨rfl, rfl⟩; rw [HK.out]; (go_wp2_with fail); rw [HR.out]; refine bodyPost_ret (v := .tuple #[.agg #[.int .i64 0, .slice none 0 0], .int .i64 1]) (by simp [results, Tryz.results70, go_sem]) rfl ⟨rfl, HO.out _⟩
    · by_cases h2 : 9007199254740992 < amount
      · have HR : Hid (mkNo kind amount path = 1) := hid (by unfold mkNo; rw [hk, if_neg (by simp), if_pos (.inl (by unfold amB; omega))]); clear hk hno; go_enter Tryz.func70, Tryz.ntmps70
        (go_wp2_with fail); refine (kind_any _ _).mono ?_; rintro _ _ ⟨rfl, rfl⟩; rw [HK.out]; (go_wp2_with fail); rw [HR.out]; refine bodyPost_ret (v := .tuple #[.agg #[.int .i64 0, .slice none 0 0], .int .i64 1]) (by simp [results, Tryz.results70, go_sem]) rfl ⟨rfl, HO.out _⟩
      · have hp : pathB path = false := by
          cases hq : pathB path with
          | false => rfl
          | true => exact absurd (by unfold mkNo; rw [hk, if_neg (by simp), if_neg (by rw [hq]; unfold amB; simp; omega)]) hno
        have HR : Hid (mkNo kind amount path = 1) := hid (by unfold mkNo; rw [hk, if_neg (by simp), if_pos (.inr hp)]); have HP := hid hp; have HPA := hid (fun w' (ho : Only (fun _ => False) w w') => path_any a len cap path w' (h.only ho (fun _ _ f => f)) hlc hcm); clear hk hno hp h; go_enter Tryz.func70, Tryz.ntmps70
        (go_wp2_with fail); refine (kind_any _ _).mono ?_; rintro _ _ ⟨rfl, rfl⟩; rw [HK.out]; (go_wp2_with fail); refine (HPA.out _ (HO.out _)).mono ?_; rintro _ _ ⟨rfl, rfl⟩; rw [HP.out]; (go_wp2_with fail); rw [HR.out]; refine bodyPost_ret (v := .tuple #[.agg #[.int .i64 0, .slice none 0 0], .int .i64 1]) (by simp [results, Tryz.results70, go_sem]) rfl ⟨rfl, HO.out _⟩
theorem off_ne {b i j : Nat} (h : i ≠ j) : (⟨b, i, none⟩ : Addr) ≠ ⟨b, j, none⟩ := fun e => h (by injection e)
theorem set_two {w : World} {b : Nat} {u v x y : Value} (h0 : w.cell? ⟨b, 0, none⟩ = some u) (h1 : w.cell? ⟨b, 1, none⟩ = some v) :
    (w.setCell ⟨b, 0, none⟩ x).cell? ⟨b, 0, none⟩ = some x ∧ ((w.setCell ⟨b, 0, none⟩ x).setCell ⟨b, 1, none⟩ y).cell? ⟨b, 1, none⟩ = some y :=
  ⟨cell_same h0, cell_same (by rw [cell_other (off_ne (by omega))]; exact h1)⟩
def MadeAt (kind : Int) (raw : List Lg) (w : World) (e : Ending) (w' : World) : Prop :=
  ∃ g cap ls, ls.Perm raw ∧ Sorted ls ∧ w.heap.size ≤ g ∧ Only (fun _ => False) w w' ∧ ReadsL w' (some ⟨g, 0, none⟩) ls.length ls ∧
    ((chk kind ls = 0 ∧ e = .returned (.tuple #[.agg #[.int .i64 kind, .slice (some ⟨g, 0, none⟩) ls.length cap], .int .i64 0])) ∨
     (chk kind ls ≠ 0 ∧ e = .returned (.tuple #[.agg #[.int .i64 0, .slice none 0 0], .int .i64 (chk kind ls)])))
set_option maxHeartbeats 8000000 in
theorem make_yes (kind amount gr : Int) (hk : kindB kind = true) (ha : amB amount) (hg : InI gr) (a : Option Addr) (len cap : Nat) (path : List Int) (hp : pathB path = true) (w : World) (h : ReadsI w a len path) (hlc : len ≤ cap) (hcm : cap ≤ 9223372036854775807) :
    Calls Tryz.prog 70 #[.int .i64 kind, .int .i64 amount, .slice a len cap, .int .i64 gr] w (MadeAt kind (rawL kind amount gr path) w) := by
  have hpo : PathOK path := (by unfold pathB at hp; simpa using hp); have hl := h.1; have HPA := hid (fun w' (ho : Only (fun _ => False) w w') => path_any a len cap path w' (h.only ho (fun _ _ f => f)) hlc hcm); have HLE := hid (fun w' (ho : Only (fun _ => False) w w') => legs_any kind amount hk ha gr hg a len cap path w' (h.only ho (fun _ _ f => f)) (by have := hpo.1; omega) (by have := hpo.2.1; omega)); obtain ⟨ha1, ha2⟩ := ha; have HO : Hid (∀ o, Only (fun _ => False) w (w.alloc o)) := hid (fun o => (Only.refl _ w).alloc o); have HK := hid hk; have HP := hid hp; clear hk hp hpo hl h hg; generalize rawL kind amount gr path = raw at *; go_enter Tryz.func70, Tryz.ntmps70
  (go_wp2_with fail); refine (kind_any _ _).mono ?_; rintro _ _ ⟨rfl, rfl⟩; rw [HK.out]; (go_wp2_with fail); refine (HPA.out _ (HO.out _)).mono ?_; rintro _ _ ⟨rfl, rfl⟩; rw [HP.out]; obtain ⟨w0, hw0⟩ : ∃ w0, w0 = w.alloc (Obj.cells #[Value.int IntKind.i64 0, Value.slice none 0 0] 67) := ⟨_, rfl⟩; have HO0 : Hid (Only (fun _ => False) w w0) := (by rw [hw0]; exact HO.out _ |> hid); have HE0 : Hid (w0.cell? ⟨w.heap.size, 0, none⟩ = some (.int .i64 0) ∧ w0.cell? ⟨w.heap.size, 1, none⟩ = some (.slice none 0 0) ∧ w0.frozen? ⟨w.heap.size, 0, none⟩ = false ∧ w0.frozen? ⟨w.heap.size, 1, none⟩ = false) := hid (by
    rw [hw0]; exact ⟨alloc_new _ _ _ _ _ _ rfl rfl, alloc_new _ _ _ _ _ _ rfl rfl, by simp, by simp⟩)
  have HSZ : Hid (w0.heap.size = w.heap.size + 1) := hid (by rw [hw0, size_alloc]); rw [← hw0]; clear hw0; (go_wp2_with fail); refine (HLE.out _ HO0.out).mono ?_; rintro _ w1 ⟨g, cp, ls, rfl, hperm, hsort, hrd, hgw, ho1⟩; have hc0 := ho1.cell' HE0.out.1 (fun f => f); have hc1 := ho1.cell' HE0.out.2.1 (fun f => f); have hf0 : w1.frozen? ⟨w.heap.size, 0, none⟩ = false := (ho1.frozen (p := ⟨w.heap.size, 0, none⟩) (by show w.heap.size < _; rw [HSZ.out]; omega) (fun f => f)).trans HE0.out.2.2.1; have hf1 : w1.frozen? ⟨w.heap.size, 1, none⟩ = false := (ho1.frozen (p := ⟨w.heap.size, 1, none⟩) (by show w.heap.size < _; rw [HSZ.out]; omega) (fun f => f)).trans HE0.out.2.2.2; have HO1 := hid (HO0.out.trans ho1); have HGW : Hid (w.heap.size + 1 ≤ g) := hid (by rw [HSZ.out] at hgw; exact hgw); have HRD := hid hrd; have HPS := hid (And.intro hperm hsort); have HCK := hid (fun w' ho => check_any kind (some ⟨g, 0, none⟩) ls.length cp ls w' (hrd.only (S := fun _ => False) ho (fun _ _ f => f))); clear hperm hsort hrd hgw ho1; (go_wp2_with fail); refine (HCK.out _ ((Only.refl _ _).alloc _)).mono ?_; rintro _ w2 ⟨rfl, ho2⟩; have HA := hid (((Only.refl (fun _ => False) w1).alloc (.cells #[.int .i64 kind, .slice (some ⟨g, 0, none⟩) ls.length cp] 67)).trans ho2); have k0 := HA.out.cell' hc0 (fun f => f); have k1 := HA.out.cell' hc1 (fun f => f); have hw1 : w.heap.size < w1.heap.size := World.block_lt_of_cell? w1 _ hc0; have j0 : w2.frozen? ⟨w.heap.size, 0, none⟩ = false := (HA.out.frozen (p := ⟨w.heap.size, 0, none⟩) hw1 (fun f => f)).trans hf0; have j1 : w2.frozen? ⟨w.heap.size, 1, none⟩ = false := (HA.out.frozen (p := ⟨w.heap.size, 1, none⟩) hw1 (fun f => f)).trans hf1; have l0 := ho2.cell' (alloc_new w1 #[.int .i64 kind, .slice (some ⟨g, 0, none⟩) ls.length cp] 67 _ 0 _ rfl rfl) (fun f => f); have l1 := ho2.cell' (alloc_new w1 #[.int .i64 kind, .slice (some ⟨g, 0, none⟩) ls.length cp] 67 _ 1 _ rfl rfl) (fun f => f); have HRD2 := hid (HRD.out.only HA.out (fun _ _ f => f)); have HO2 := hid (HO1.out.trans HA.out); have hne : w1.heap.size ≠ w.heap.size := (by omega); clear ho2 hc0 hc1 hf0 hf1; have HS2 : Hid (∀ x y, Only (fun k => k = w.heap.size) w2 ((w2.setCell ⟨w.heap.size, 0, none⟩ x).setCell ⟨w.heap.size, 1, none⟩ y)) := hid (fun x y => ((Only.refl (fun k => k = w.heap.size) w2).setCell (p := ⟨w.heap.size, 0, none⟩) (.inl rfl) x).setCell (p := ⟨w.heap.size, 1, none⟩) (.inl rfl) y)
  by_cases hc : chk kind ls = 0
  · have HC := hid hc; rw [hc]; clear hc; generalize hlen : ls.length = len2 at *; have HLEN := hid hlen; clear hlen; (go_wp2_with fail); refine bodyPost_ret (v := .tuple #[.agg #[.int .i64 kind, .slice (some ⟨g, 0, none⟩) len2 cp], .int .i64 0]) ?_ rfl ⟨g, cp, ls, HPS.out.1, HPS.out.2, ?_, ?_, ?_, .inl ⟨HC.out, by rw [HLEN.out]⟩⟩
    · simp [results, Tryz.results70, go_sem, (set_two (x := .int .i64 kind) (y := .slice (some ⟨g, 0, none⟩) len2 cp) k0 k1).1, (set_two (x := .int .i64 kind) (y := .slice (some ⟨g, 0, none⟩) len2 cp) k0 k1).2]
    · have := HGW.out; omega
    · exact HO2.out.then (HS2.out _ _) (fun q hq e => by omega)
    · rw [HLEN.out]; exact HRD2.out.only (HS2.out _ _) (fun x hx e => by injection hx with hx; subst hx; have := HGW.out; exact absurd e (by show g ≠ w.heap.size; omega))
  · have HC := hid hc; have hc1 : (chk kind ls == 0) = false := (by simpa using hc); have hc2 : (chk kind ls != 0) = true := (by simpa using hc); generalize hlen : ls.length = len2 at *; generalize hcc : chk kind ls = c at *; have HLEN := hid hlen; have HCC := hid hcc; clear hlen hc hcc; (go_wp2_with fail); refine bodyPost_ret (v := .tuple #[.agg #[.int .i64 0, .slice none 0 0], .int .i64 c]) ?_ rfl ⟨g, cp, ls, HPS.out.1, HPS.out.2, ?_, ?_, ?_, .inr ⟨by rw [HCC.out]; exact HC.out, by rw [HCC.out]⟩⟩
    · simp [results, Tryz.results70, go_sem, (set_two (x := .int .i64 0) (y := .slice none 0 0) k0 k1).1, (set_two (x := .int .i64 0) (y := .slice none 0 0) k0 k1).2]
    · have := HGW.out; omega
    · exact HO2.out.then (HS2.out _ _) (fun q hq e => by omega)
    · rw [HLEN.out]; exact HRD2.out.only (HS2.out _ _) (fun x hx e => by injection hx with hx; subst hx; have := HGW.out; exact absurd e (by show g ≠ w.heap.size; omega))
def oppK (ls : List Lg) (k : Nat) : List Lg := opp (ls.take k) ++ ls.drop k
theorem oppK_len (ls : List Lg) (k : Nat) : (oppK ls k).length = ls.length := by
  unfold oppK; rw [List.length_append, opp_len, List.length_take, List.length_drop]; omega
theorem oppK_split (ls : List Lg) (k : Nat) (h : k < ls.length) : oppK ls k = opp (ls.take k) ++ ls.getD k default :: ls.drop (k + 1) := by
  unfold oppK; rw [drop_getL ls k h]
theorem oppK_succ (ls : List Lg) (k : Nat) (h : k < ls.length) : oppK ls (k + 1) = opp (ls.take k) ++ { ls.getD k default with a := negI (ls.getD k default).a } :: ls.drop (k + 1) := by
  unfold oppK; have e : ls.getD k default = ls[k] := (by simp [List.getD, h]); rw [List.take_succ_eq_append_getElem h, e]; unfold opp; rw [List.map_append]; simp only [List.map_cons, List.map_nil, List.append_assoc, List.singleton_append]
theorem oppK_set (ls : List Lg) (k : Nat) (h : k < ls.length) : lv (oppK ls (k + 1)) = (lv (oppK ls k)).set (k * 4 + 3) (.int .i64 (negI (ls.getD k default).a)) := by
  have hl : (lv (opp (ls.take k))).length = k * 4 := (by rw [lv_length, opp_len, List.length_take]; congr 1; omega); rw [oppK_split ls k h, oppK_succ ls k h, lv_append, lv_append, lv_cons, lv_cons, List.set_append_right _ _ (by rw [hl]; omega), hl, show k * 4 + 3 - k * 4 = 3 by omega]
  rfl
theorem news_legs {w : World} {b off n : Nat} {ls : List Lg} (h : ReadsL w (some ⟨b, off, none⟩) n ls) : ∀ j u, (lv ls)[j]? = some u → w.cell? ⟨b, off + j, none⟩ = some u := by
  intro j u hu; have hj : j < ls.length * 4 := by
    rcases Nat.lt_or_ge j (ls.length * 4) with h' | h'
    · exact h'
    · rw [List.getElem?_eq_none (by rw [lv_length]; exact h')] at hu; cases hu
  have hi : j / 4 < ls.length := (by omega); have e := lv_get ls (j / 4) (j % 4) hi (by omega); rw [show j / 4 * 4 + j % 4 = j by omega, hu] at e; rcases h.2.2.2 with h0 | ⟨b', off', ha, hc⟩
  · have := h.1; omega
  · obtain ⟨rfl, rfl⟩ : b = b' ∧ off = off' := (by injection ha with ha; injection ha with h1 h2; exact ⟨h1, h2⟩); obtain ⟨c0, c1, c2, c3⟩ := hc (j / 4) (by rw [← h.1]; exact hi); have hm : j % 4 = 0 ∨ j % 4 = 1 ∨ j % 4 = 2 ∨ j % 4 = 3 := (by omega); have hsp : off + j = off + j / 4 * 4 + j % 4 := (by omega); rw [hsp, e]; rcases hm with h4 | h4 | h4 | h4 <;> rw [h4]
    · exact c0
    · exact c1
    · exact c2
    · exact c3
theorem clone_legs (b off n cap : Nat) (ls : List Lg) (w : World) (h : ReadsL w (some ⟨b, off, none⟩) n ls) (hm : n ≤ 1000) (h1 : 1 ≤ n) :
    Calls Tryz.prog 91 #[.slice (some ⟨b, off, none⟩) n cap] w fun e w' => ∃ g cp, e = .returned (.slice (some ⟨g, 0, none⟩) n cp) ∧ OwnL w' (.slice (some ⟨g, 0, none⟩) n cp) ls ∧ w.heap.size ≤ g ∧ Only (fun _ => False) w w' := by
  obtain ⟨i0, hi, hz0, hz1, hz2⟩ := info_parts info_leg; refine (AnyE.slices_Clone Try.cloneLegs i0 _ 4 32 hi hz0 hz1 hz2 rfl (by decide) Tryz.sizeOf96 b off n cap (lv ls) w (by rw [lv_length, h.1]) (by unfold maxLen; omega) (by omega) (news_legs h) (lv_one ls)).mono ?_; rintro e w' ⟨v, rfl, hown, hne, hb⟩; obtain ⟨g, cp, rfl, hg, _⟩ := owns_form hown (by omega); refine ⟨g, cp, rfl, ?_, hg, Only.of_below hb⟩; unfold OwnL; rw [h.1]; exact owns_le hown (Nat.zero_le _)
structure OpW (kind : Int) (ls : List Lg) (b3 g n cp k : Nat) (w wf : World) : Prop where
  c0 : wf.cell? ⟨b3, 0, none⟩ = some (.int .i64 kind)
  c1 : wf.cell? ⟨b3, 1, none⟩ = some (.slice (some ⟨g, 0, none⟩) n cp)
  own : OwnL wf (.slice (some ⟨g, 0, none⟩) n cp) (oppK ls k)
  r0 : ∃ u, wf.cell? ⟨w.heap.size + 1, 0, none⟩ = some u
  r1 : ∃ u, wf.cell? ⟨w.heap.size + 1, 1, none⟩ = some u
  f0 : wf.frozen? ⟨w.heap.size + 1, 0, none⟩ = false
  f1 : wf.frozen? ⟨w.heap.size + 1, 1, none⟩ = false
  only : Only (fun _ => False) w wf
  gw : w.heap.size + 2 ≤ g
  gb : g ≠ b3
theorem OpW.step {kind : Int} {ls : List Lg} {b3 g n cp k : Nat} {w wf : World} (h : OpW kind ls b3 g n cp k w wf) (hn : n = ls.length) (hk : k < n) (d : Nat) :
    OpW kind ls b3 g n cp (k + 1) w ((wf.drewN d).setCell ⟨g, k * 4 + 3, none⟩ (.int .i64 (negI (ls.getD k default).a))) := by
  have hgw := h.gw; have ho : Only (fun q => q = g) wf ((wf.drewN d).setCell ⟨g, k * 4 + 3, none⟩ (.int .i64 (negI (ls.getD k default).a))) := (only_drewN (Only.refl (fun q => q = g) wf) d).setCell (p := ⟨g, k * 4 + 3, none⟩) (.inl rfl) _; obtain ⟨u0, hu0⟩ := h.r0; obtain ⟨u1, hu1⟩ := h.r1; have hb := World.block_lt_of_cell? wf _ hu0; refine ⟨ho.cell' h.c0 (fun e => h.gb e.symm), ho.cell' h.c1 (fun e => h.gb e.symm), ?_, ⟨u0, ho.cell' hu0 (show ¬ w.heap.size + 1 = g by omega)⟩, ⟨u1, ho.cell' hu1 (show ¬ w.heap.size + 1 = g by omega)⟩,
    (ho.frozen (p := ⟨w.heap.size + 1, 0, none⟩) hb (show ¬ w.heap.size + 1 = g by omega)).trans h.f0, (ho.frozen (p := ⟨w.heap.size + 1, 1, none⟩) hb (show ¬ w.heap.size + 1 = g by omega)).trans h.f1, h.only.then ho (fun q hq e => by omega), h.gw, h.gb⟩
  have h1 : OwnL (wf.drewN d) (.slice (some ⟨g, 0, none⟩) n cp) (oppK ls k) := h.own.only (only_drewN (Only.refl (fun _ => False) wf) d) (fun _ _ f => f); unfold OwnL at h1 ⊢; rw [oppK_len, ← hn] at h1 ⊢; rw [oppK_set ls k (by omega)]; exact (h1.stored (k * 4 + 3) _).1
theorem ltA_tri {x y : Lg} (h1 : ¬ ltA x y) (h2 : ¬ ltA y x) : x.k = y.k ∧ x.n = y.n ∧ x.g = y.g := by unfold ltA at *; omega
theorem sorted_one {a b : List Lg} (hp : a.Perm b) (ha : Sorted a) (hb : Sorted b) (hd : ∀ x ∈ b, ∀ y ∈ b, x.k = y.k → x.n = y.n → x.g = y.g → x = y) : a = b := by
  refine List.Perm.eq_of_pairwise (le := fun x y => ¬ ltA y x) ?_ ha hb hp; intro x y hx hy h1 h2; obtain ⟨e1, e2, e3⟩ := ltA_tri h2 h1; exact hd x (hp.mem_iff.1 hx) y hy e1 e2 e3
theorem mk_cases (kind amount : Int) (path : List Int) : mkNo kind amount path ≠ 0 ∨ (kindB kind = true ∧ amB amount ∧ pathB path = true) := by
  unfold mkNo
  by_cases h1 : kindB kind = false
  · left; rw [if_pos h1]; decide
  · by_cases h2 : ¬ amB amount ∨ pathB path = false
    · left; rw [if_neg h1, if_pos h2]; decide
    · right
      refine ⟨by simpa using h1, ?_, ?_⟩
      · by_cases h3 : amB amount
        · exact h3
        · exact absurd (.inl h3) h2
      · cases h4 : pathB path with
        | true => rfl
        | false => exact absurd (.inr h4) h2
theorem OwnL.reads {w : World} {g n cap : Nat} {ls : List Lg} (h : OwnL w (.slice (some ⟨g, 0, none⟩) n cap) ls) (hn : n = ls.length) (hm : ls.length ≤ 9223372036854775807) (hb : ∀ l ∈ ls, InL l) : ReadsL w (some ⟨g, 0, none⟩) n ls := by
  have := holds_reads (h.holds hn).1 (by simpa using hm) (fun l hl => hb l (by simpa using hl)); rw [hn]
  simpa using this
theorem info_rleg : (Tryz.prog.info? 94).map (fun i => (i.zero, i.size, i.bytes)) = some (some (.agg #[.int .i64 0, .int .i64 0, .int .i64 0, .int .i64 0]), 4, 32) := by kernel_rfl
theorem ReadsL.take {w : World} {a : Option Addr} {len : Nat} {ls : List Lg} (h : ReadsL w a len ls) (n : Nat) (hn : n ≤ len) : ReadsL w a n (ls.take n) := by
  obtain ⟨hl, hm, hb, hc⟩ := h; refine ⟨by simp; omega, by omega, fun c hc' => hb c (List.mem_of_mem_take hc'), ?_⟩; rcases hc with h0 | ⟨b, off, ha, hcell⟩
  · exact .inl (by omega)
  · refine .inr ⟨b, off, ha, fun i hi => ?_⟩; have : (ls.take n).getD i default = ls.getD i default := (by simp [List.getD, hi]); rw [this]; exact hcell i (by omega)
theorem own_reads {w : World} {t : TypeId} {base g n cap : Nat} {ls : List Lg} (h : w.ownsRow base t 4 (.slice (some ⟨g, 0, none⟩) n cap) n (lv ls)) (hm : n ≤ 9223372036854775807) (hb : ∀ l ∈ ls, InL l) : ReadsL w (some ⟨g, 0, none⟩) n ls := by
  have hl : ls.length = n := (by have := h.1; rw [lv_length] at this; omega); refine ⟨hl, hm, hb, .inr ⟨g, 0, rfl, fun i hi => ?_⟩⟩; have e : ∀ c, c < 4 → w.cell? ⟨g, 0 + i * 4 + c, none⟩ = (encL (ls.getD i default))[c]? := fun c hc => by
    rw [Nat.zero_add, h.cellAt (i * 4 + c) (by omega), lv_get ls i c (by omega) hc]
  exact ⟨e 0 (by omega), e 1 (by omega), e 2 (by omega), e 3 (by omega)⟩
structure TwoTwo (w w3 : World) (k : Value) (v : Value) : Prop where
  c0 : w3.cell? ⟨w.heap.size, 0, none⟩ = some k
  c1 : w3.cell? ⟨w.heap.size, 1, none⟩ = some v
  f1 : w3.frozen? ⟨w.heap.size, 1, none⟩ = false
  r0 : ∃ u, w3.cell? ⟨w.heap.size + 1, 0, none⟩ = some u
  r1 : ∃ u, w3.cell? ⟨w.heap.size + 1, 1, none⟩ = some u
  g0 : w3.frozen? ⟨w.heap.size + 1, 0, none⟩ = false
  g1 : w3.frozen? ⟨w.heap.size + 1, 1, none⟩ = false
  only : Only (fun _ => False) w w3
theorem TwoTwo.start (w : World) (k v x y : Value) (t t2 : TypeId) : TwoTwo w ((w.alloc (.cells #[k, v] t)).alloc (.cells #[x, y] t2)) k v := by
  have h1 : Only (fun _ => False) (w.alloc (.cells #[k, v] t)) ((w.alloc (.cells #[k, v] t)).alloc (.cells #[x, y] t2)) := (Only.refl _ _).alloc _; exact ⟨h1.cell' (alloc_new _ _ _ _ _ _ rfl rfl) (fun f => f), h1.cell' (alloc_new _ _ _ _ _ _ rfl rfl) (fun f => f), by simp, ⟨_, alloc_new _ _ _ _ _ _ (by simp) rfl⟩, ⟨_, alloc_new _ _ _ _ _ _ (by simp) rfl⟩, by simp, by simp, ((Only.refl _ w).alloc _).alloc _⟩
theorem TwoTwo.next {S : Nat → Prop} {w w3 w4 : World} {k v : Value} (h : TwoTwo w w3 k v) (ho : Only S w3 w4) (hs : ∀ q, S q → w.heap.size + 2 ≤ q) : TwoTwo w w4 k v := by
  obtain ⟨u0, r0⟩ := h.r0; obtain ⟨u1, r1⟩ := h.r1; have a0 : ¬ S w.heap.size := fun e => (by have := hs _ e; omega); have a1 : ¬ S (w.heap.size + 1) := fun e => (by have := hs _ e; omega); have l0 := World.block_lt_of_cell? w3 _ h.c0; have l1 := World.block_lt_of_cell? w3 _ r0; exact ⟨ho.cell' h.c0 a0, ho.cell' h.c1 a0, (ho.frozen (p := ⟨w.heap.size, 1, none⟩) l0 a0).trans h.f1, ⟨u0, ho.cell' r0 a1⟩, ⟨u1, ho.cell' r1 a1⟩, (ho.frozen (p := ⟨w.heap.size + 1, 0, none⟩) l1 a1).trans h.g0, (ho.frozen (p := ⟨w.heap.size + 1, 1, none⟩) l1 a1).trans h.g1, h.only.then ho (fun q hq e => by have := hs q e; omega)⟩
structure LocAt (w : World) (c : Nat) (k v : Value) : Prop where
  c0 : w.cell? ⟨c, 0, none⟩ = some k
  c1 : w.cell? ⟨c, 1, none⟩ = some v
  f1 : w.frozen? ⟨c, 1, none⟩ = false
theorem LocAt.only {S : Nat → Prop} {w w' : World} {c : Nat} {k v : Value} (h : LocAt w c k v) (ho : Only S w w') (hs : ¬ S c) : LocAt w' c k v :=
  ⟨ho.cell' h.c0 hs, ho.cell' h.c1 hs, (ho.frozen (p := ⟨c, 1, none⟩) (World.block_lt_of_cell? w _ h.c1) hs).trans h.f1⟩
theorem LocAt.set {w : World} {c : Nat} {k v : Value} (h : LocAt w c k v) (u : Value) : LocAt (w.setCell ⟨c, 1, none⟩ u) c k u :=
  ⟨by rw [cell_other (off_ne (by omega))]; exact h.c0, cell_same h.c1, by rw [frozen_set]; exact h.f1⟩
theorem alloc_froz (W : World) (cs : Array Value) (t : TypeId) (g i : Nat) (hg : g = W.heap.size) : (W.alloc (.cells cs t)).frozen? ⟨g, i, none⟩ = false := by
  subst hg; have e : (W.alloc (.cells cs t)).heap[W.heap.size]? = some (.cells cs t) := (by rw [heap_alloc, if_pos rfl]); unfold World.frozen?; dsimp only; rw [e]; simp
theorem take_snocL (ls : List Lg) (k : Nat) (h : k < ls.length) : ls.take (k + 1) = ls.take k ++ [ls.getD k default] := by
  rw [List.take_succ_eq_append_getElem h]; have : ls.getD k default = ls[k] := (by simp [List.getD, h]); rw [this]
def ltB (x y : Lg) : Bool := decide (ltA x y)
theorem ltB_k {x y : Lg} (h : ¬ x.k = y.k) : ltB x y = decide (x.k < y.k) := by
  unfold ltB; rw [Bool.eq_iff_iff, decide_eq_true_eq, decide_eq_true_eq]; unfold ltA; omega
theorem ltB_n {x y : Lg} (h : x.k = y.k) (h2 : ¬ x.n = y.n) : ltB x y = decide (x.n < y.n) := by
  unfold ltB; rw [Bool.eq_iff_iff, decide_eq_true_eq, decide_eq_true_eq]; unfold ltA; omega
theorem ltB_g {x y : Lg} (h : x.k = y.k) (h2 : x.n = y.n) : ltB x y = decide (x.g < y.g) := by
  unfold ltB; rw [Bool.eq_iff_iff, decide_eq_true_eq, decide_eq_true_eq]; unfold ltA; omega
set_option maxHeartbeats 8000000 in
theorem rises_any (x y : Lg) (w : World) : Calls Tryz.prog 68 #[.agg #[.int .i64 x.k, .int .i64 x.n, .int .i64 x.g, .int .i64 x.a], .agg #[.int .i64 y.k, .int .i64 y.n, .int .i64 y.g, .int .i64 y.a]] w fun e w' => e = .returned (.bool (ltB x y)) ∧ Only (fun _ => False) w w' := by
  have HO : Hid (∀ o p, Only (fun _ => False) w ((w.alloc o).alloc p)) := hid (fun o p => ((Only.refl _ w).alloc o).alloc p); obtain ⟨xk, xn, xg, xa⟩ := x; obtain ⟨yk, yn, yg, ya⟩ := y; dsimp only
  by_cases h1 : xk = yk
  · by_cases h2 : xn = yn
    · have HR := hid (ltB_g (x := ⟨xk, xn, xg, xa⟩) (y := ⟨yk, yn, yg, ya⟩) h1 h2); subst h1 h2; go_enter Tryz.func68, Tryz.ntmps68
      (go_wp2_with fail); rw [HR.out]; go_ret
      exact ⟨rfl, HO.out _ _⟩
    · have HR := hid (ltB_n (x := ⟨xk, xn, xg, xa⟩) (y := ⟨yk, yn, yg, ya⟩) h1 h2); have e1 : (xn == yn) = false := (by simpa using h2); have e2 : (xn != yn) = true := (by simpa using h2); subst h1; clear h2; go_enter Tryz.func68, Tryz.ntmps68
      (go_wp2_with fail); rw [HR.out]; go_ret
      exact ⟨rfl, HO.out _ _⟩
  · have HR := hid (ltB_k (x := ⟨xk, xn, xg, xa⟩) (y := ⟨yk, yn, yg, ya⟩) h1); have e1 : (xk == yk) = false := (by simpa using h1); have e2 : (xk != yk) = true := (by simpa using h1); clear h1; go_enter Tryz.func68, Tryz.ntmps68
    (go_wp2_with fail); rw [HR.out]; go_ret
    exact ⟨rfl, HO.out _ _⟩
set_option maxHeartbeats 8000000 in
theorem raccount_any (k n g a : Int) (w : World) : Calls Tryz.prog 95 #[.agg #[.int .i64 k, .int .i64 n, .int .i64 g, .int .i64 a]] w fun e w' => e = .returned (.bool (accB ⟨k, n, g, a⟩)) ∧ Only (fun _ => False) w w' := by
  have ho : ∀ o, Only (fun _ => False) w (w.alloc o) := fun o => (Only.refl _ w).alloc o
  by_cases hk : k = 1
  · subst hk
    by_cases hn : n = 0
    · subst hn; go_enter Tryz.func95, Tryz.ntmps95
      go_wp2_with fail
      all_goals go_ret
      all_goals exact ⟨by simp [accB], ho _⟩
    · have hn' : (n == 0) = false := (by simpa using hn); go_enter Tryz.func95, Tryz.ntmps95
      go_wp2_with fail
      all_goals go_ret
      all_goals exact ⟨by simp [accB, hn], ho _⟩
  · by_cases hk2 : k = 2 ∨ k = 3 ∨ k = 5
    · by_cases hn1 : 1 ≤ n
      · by_cases hn2 : n ≤ 32
        · rcases hk2 with rfl | rfl | rfl
          all_goals
            go_enter Tryz.func95, Tryz.ntmps95
            go_wp2_with fail
            all_goals go_ret
            all_goals exact ⟨by first | (simp [accB, nodeB]; done) | (simp [accB, nodeB]; omega) | (simp [accB, nodeB]; intros; omega), ho _⟩
        · have hd : decide (n ≤ 32) = false := (by simpa using hn2); rcases hk2 with rfl | rfl | rfl
          all_goals
            go_enter Tryz.func95, Tryz.ntmps95
            go_wp2_with fail
            all_goals go_ret
            all_goals exact ⟨by first | (simp [accB, nodeB]; done) | (simp [accB, nodeB]; omega) | (simp [accB, nodeB]; intros; omega), ho _⟩
      · have hd : decide (1 ≤ n) = false := (by simpa using hn1); rcases hk2 with rfl | rfl | rfl
        all_goals
          go_enter Tryz.func95, Tryz.ntmps95
          go_wp2_with fail
          all_goals go_ret
          all_goals exact ⟨by first | (simp [accB, nodeB]; done) | (simp [accB, nodeB]; omega) | (simp [accB, nodeB]; intros; omega), ho _⟩
    · by_cases hk4 : k = 4
      · subst hk4
        by_cases hn1 : 1 ≤ n
        · by_cases hn2 : n ≤ 32
          · by_cases hg1 : 1 ≤ g
            · go_enter Tryz.func95, Tryz.ntmps95
              go_wp2_with fail
              all_goals go_ret
              all_goals exact ⟨by simp [accB, nodeB, hn1, hn2, hg1], ho _⟩
            · have hd : decide (1 ≤ g) = false := (by simpa using hg1); go_enter Tryz.func95, Tryz.ntmps95
              go_wp2_with fail
              all_goals go_ret
              all_goals exact ⟨by first | (simp [accB, nodeB]; done) | (simp [accB, nodeB]; omega) | (simp [accB, nodeB]; intros; omega), ho _⟩
          · have hd : decide (n ≤ 32) = false := (by simpa using hn2); go_enter Tryz.func95, Tryz.ntmps95
            go_wp2_with fail
            all_goals go_ret
            all_goals exact ⟨by first | (simp [accB, nodeB]; done) | (simp [accB, nodeB]; omega) | (simp [accB, nodeB]; intros; omega), ho _⟩
        · have hd : decide (1 ≤ n) = false := (by simpa using hn1); go_enter Tryz.func95, Tryz.ntmps95
          go_wp2_with fail
          all_goals go_ret
          all_goals exact ⟨by first | (simp [accB, nodeB]; done) | (simp [accB, nodeB]; omega) | (simp [accB, nodeB]; intros; omega), ho _⟩
      · have e1 : (k == 1) = false := (by simpa using hk); have e2 : (k == 2) = false := (by simpa using (fun e => hk2 (.inl e))); have e3 : (k == 3) = false := (by simpa using (fun e => hk2 (.inr (.inl e)))); have e4 : (k == 4) = false := (by simpa using hk4); have e5 : (k == 5) = false := (by simpa using (fun e => hk2 (.inr (.inr e)))); have HA : Hid (accB ⟨k, n, g, a⟩ = false) := hid (by unfold accB; rw [if_neg hk, if_neg hk2, if_neg hk4]); clear hk hk2 hk4; go_enter Tryz.func95, Tryz.ntmps95
        go_wp2_with fail
        all_goals rw [HA.out]
        all_goals go_ret
        all_goals exact ⟨rfl, ho _⟩
end Go.Proofs.YtkbaafgaaiekpaaGreat.entw
