/- TreeFull's walk. -/
import Derived.Test.YtginfnceindojaaTrG
import Derived.Test.YtginfnceindojaaHeldL
import Derived.DeepKeys
import Derived.Deep.CutRange
import Derived.Deep.CutBlock
namespace Go.Proofs.Ytginfnceindojaa.tre
open Go.RowKit mem
set_option linter.unusedVariables false

/-- the node that is created as the k-th -/
def mkN (i : Nat) : Nd := ⟨i, if 1 < 1 + ((i : Int) - 1) % 3 then (i : Int) - 1 else 0, 1 + ((i : Int) - 1) % 3, i, false⟩
def Cs : Nat → List Nd
  | 0 => T0
  | k + 1 => putT (Cs k) (mkN (k + 1))
theorem cs_ok : ∀ k, k < 33 → putE (Cs k) (mkN (k + 1)) = if k < 32 then 0 else 1 := by decide +kernel
def Full (T : List Nd) : Prop := ∀ k : Nat, 1 ≤ k → k ≤ 32 → hasB T k = true
theorem Full.move {T : List Nd} (h : Full T) (ht : Tok T) (id par : Int) : Full (movT T id par) := by
  unfold movT
  by_cases he : movE T id par = 0
  · rw [if_pos he]
    unfold movE at he
    by_cases hb : hasB T id = false
    · rw [if_pos hb] at he; simp at he
    · have hb' : hasB T id = true := by simpa using hb
      obtain ⟨k, rfl, h1, h2⟩ := hasB_lt hb'
      rw [got_has hb', Int.toNat_natCast]
      refine fun j j1 j2 => (hasB_set ht.len h2 h1 ?_ j).2 (.inr (h j j1 j2))
      exact (hasB_nat.1 hb').2.2
  · rw [if_neg he]; exact h
theorem Full.close {T : List Nd} (h : Full T) (ht : Tok T) (id : Int) : Full (cloT T id) := by
  unfold cloT
  by_cases he : cloE T id = 0
  · rw [if_pos he]
    unfold cloE at he
    by_cases hb : hasB T id = false
    · rw [if_pos hb] at he; simp at he
    · have hb' : hasB T id = true := by simpa using hb
      obtain ⟨k, rfl, h1, h2⟩ := hasB_lt hb'
      rw [got_has hb', Int.toNat_natCast]
      refine fun j j1 j2 => (hasB_set ht.len h2 h1 ?_ j).2 (.inr (h j j1 j2))
      exact (hasB_nat.1 hb').2.2
  · rw [if_neg he]; exact h
def L32 : List Int := (List.range 32).map fun (k : Nat) => ((k + 1 : Nat) : Int)
theorem full_ids {T : List Nd} (h : Full T) : idsL T = L32 := by
  have e : (List.range 33).filter (fun (j : Nat) => hasB T (j : Int)) = (List.range 33).filter (fun (j : Nat) => decide (1 ≤ j)) := by
    refine List.filter_congr fun j hj => ?_
    have := List.mem_range.1 hj
    by_cases h1 : 1 ≤ j
    · rw [h j h1 (by omega)]; simp [h1]
    · obtain rfl : j = 0 := by omega
      have : ¬ hasB T ((0 : Nat) : Int) = true := fun q => by have := hasB_nat.1 q; omega
      simpa using this
  unfold idsL idsU
  rw [e]
  decide +kernel
theorem L32_len : L32.length = 32 := by decide
theorem L32_get (k : Nat) (h : k < 32) : L32.getD k 0 = ((k + 1 : Nat) : Int) := by
  simp [L32, List.getD, h]
/-- how far the copy is -/
def Us (T : List Nd) (K : Int) (i : Nat) (U : List Nd) : Prop := ∀ k, k < 33 → U.getD k default = if 1 ≤ k ∧ ((T.getD k default).kind < K ∨ (T.getD k default).kind = K ∧ k ≤ i) then T.getD k default else default
theorem Us.zero {T : List Nd} (h : Tok T) (hf : Full T) : Us T 1 0 T0 := by
  intro k hk
  rw [getD_T0, if_neg]
  rintro ⟨h1, h2⟩
  have := (h.inv k (hf k h1 (by omega))).1
  omega
theorem Us.skip {T U : List Nd} {K : Int} {i : Nat} (h : Us T K i U) (hk : (T.getD (i + 1) default).kind ≠ K) : Us T K (i + 1) U := by
  intro k hk3
  rw [h k hk3]
  by_cases e : k = i + 1
  · subst e
    by_cases h1 : (T.getD (i + 1) default).kind < K
    · rw [if_pos ⟨by omega, .inl h1⟩, if_pos ⟨by omega, .inl h1⟩]
    · rw [if_neg (fun q => by omega), if_neg (fun q => by omega)]
  · by_cases h1 : 1 ≤ k ∧ ((T.getD k default).kind < K ∨ (T.getD k default).kind = K ∧ k ≤ i)
    · rw [if_pos h1, if_pos ⟨h1.1, h1.2.imp id (fun q => ⟨q.1, by omega⟩)⟩]
    · rw [if_neg h1, if_neg (fun q => h1 ⟨q.1, q.2.imp id (fun r => ⟨r.1, by omega⟩)⟩)]
theorem Us.next {T U : List Nd} {K : Int} (h : Us T K 32 U) : Us T (K + 1) 0 U := by
  intro k hk
  rw [h k hk]
  by_cases h1 : 1 ≤ k ∧ (T.getD k default).kind < K + 1
  · rw [if_pos ⟨h1.1, by omega⟩, if_pos ⟨h1.1, .inl h1.2⟩]
  · rw [if_neg (fun q => h1 ⟨q.1, by omega⟩), if_neg (fun q => h1 ⟨q.1, by omega⟩)]
theorem Us.put {T U : List Nd} {K : Int} {i : Nat} (h : Us T K i U) (ht : Tok T) (hu : Tok U) (hf : Full T) (hi : i < 32) (hk : (T.getD (i + 1) default).kind = K) :
    putE U (T.getD (i + 1) default) = 0 ∧ Us T K (i + 1) (putT U (T.getD (i + 1) default)) := by
  have hb := hf (i + 1) (by omega) (by omega)
  have hid := (ht.idk (i + 1) (by omega)).resolve_left (hasB_nat.1 hb).2.2
  have hI := ht.inv (i + 1) hb
  have hL := ht.lim (i + 1) hb
  have hO := ht.or1 (i + 1) hb
  have hP := ht.opn (i + 1) hb
  have hno : hasB U ((i + 1 : Nat) : Int) = false := by
    have : ¬ hasB U ((i + 1 : Nat) : Int) = true := fun q => by
      have q2 := (hasB_nat.1 q).2.2
      rw [h (i + 1) (by omega), if_neg (fun q => by omega)] at q2
      exact q2 rfl
    simpa using this
  have hE : putE U (T.getD (i + 1) default) = 0 := by
    unfold putE
    rw [if_neg (fun q => q (by rw [hid]; omega)), if_neg (fun q => q hL), if_neg (fun q => q ⟨hI.1, hI.2.1⟩), if_neg (fun q => q ⟨hO, hI.2.2.1⟩), if_neg (by rw [hid, hno]; simp)]
    by_cases h1 : (T.getD (i + 1) default).kind = 1
    · rw [if_pos h1]
    · rw [if_neg h1]
      obtain ⟨q1, q2⟩ := hI.2.2.2 h1
      obtain ⟨m, hm, m1, m2⟩ := hasB_lt q1
      have hum : U.getD m default = T.getD m default := by
        rw [h m m2, if_pos]
        rw [hm, Int.toNat_natCast] at q2
        exact ⟨m1, .inl (by omega)⟩
      have hbu : hasB U (T.getD (i + 1) default).par = true := by
        rw [hm] at q1 ⊢
        have := hasB_nat.1 q1
        exact hasB_nat.2 ⟨this.1, this.2.1, by rw [hum]; exact this.2.2⟩
      have hgu : got U (T.getD (i + 1) default).par = T.getD m default := by rw [got_has' hbu, hm, Int.toNat_natCast, hum]
      have htk : takE U (T.getD (i + 1) default).par (T.getD (i + 1) default).kind = if (T.getD m default).cl = true then 16 else 0 := by
        unfold takE
        rw [if_neg (by rw [hbu]; simp), hgu, if_neg]
        rw [hm, Int.toNat_natCast] at q2
        simpa using q2
      rw [htk]
      by_cases hc : (T.getD m default).cl = true
      · rw [if_pos hc, if_pos ⟨rfl, hP h1 (by rw [hm, Int.toNat_natCast]; exact hc)⟩]
      · rw [if_neg hc]; simp
  refine ⟨hE, ?_⟩
  unfold putT
  rw [if_pos hE, hid, Int.toNat_natCast]
  intro k hk3
  rw [getD_set U (i + 1) k _ (by rw [hu.len]; omega)]
  by_cases e : k = i + 1
  · subst e
    rw [if_pos rfl, if_pos ⟨by omega, .inr ⟨hk, Nat.le_refl _⟩⟩]
  · rw [if_neg e, h k hk3]
    by_cases h1 : 1 ≤ k ∧ ((T.getD k default).kind < K ∨ (T.getD k default).kind = K ∧ k ≤ i)
    · rw [if_pos h1, if_pos ⟨h1.1, h1.2.imp id (fun q => ⟨q.1, by omega⟩)⟩]
    · rw [if_neg h1, if_neg (fun q => h1 ⟨q.1, q.2.imp id (fun r => ⟨r.1, by omega⟩)⟩)]
theorem Us.all {T U : List Nd} (h : Us T 4 0 U) (ht : Tok T) (hf : Full T) (k : Nat) (h1 : 1 ≤ k) (h2 : k ≤ 32) : U.getD k default = T.getD k default := by
  rw [h k (by omega), if_pos ⟨h1, .inl (by have := (ht.inv k (hf k h1 h2)).2.1; omega)⟩]
def InI (c : Int) : Prop := -9223372036854775808 ≤ c ∧ c ≤ 9223372036854775807
theorem key_nd (a b c d : Int) (f : Bool) (ha : InI a) (hb : InI b) (hc : InI c) (hd : InI d) : Try.prog.keyLits 2 33 [.int .i64 a, .int .i64 b, .int .i64 c, .int .i64 d, .bool f] = some [.int .i64 a, .int .i64 b, .int .i64 c, .int .i64 d, .bool f] := by
  have c3 : Try.prog.cellsOf 3 = 1 := by kernel_rfl
  have c4 : Try.prog.cellsOf 4 = 1 := by kernel_rfl
  have c5 : Try.prog.cellsOf 33 = 5 := by kernel_rfl
  have hw : ∀ {n : Int}, InI n → (Lit.int .i64 n).wf = true := by
    intro n h
    unfold InI at h
    simp [Lit.wf, IntKind.min, IntKind.max, IntKind.signed, IntKind.bits]; omega
  simp [Program.keyLits, Try.underlying33, Try.underlying3, Try.underlying4, c3, c4, c5, hw ha, hw hb, hw hc, hw hd]
theorem nd_eq (a b c d : Int) (f : Bool) (ha : InI a) (hb : InI b) (hc : InI c) (hd : InI d) (w : World) : (Op.equalIn 10000 33 (.agg #[.int .i64 a, .int .i64 b, .int .i64 c, .int .i64 d, .bool f]) (.agg #[.int .i64 a, .int .i64 b, .int .i64 c, .int .i64 d, .bool f])).run Try.prog w = .ok true w := by
  obtain ⟨r, hr, hiff⟩ := run_equalIn_deep (P := Try.prog) 9990 10 33 (by kernel_rfl) w 2 2 (.agg #[.int .i64 a, .int .i64 b, .int .i64 c, .int .i64 d, .bool f]) (.agg #[.int .i64 a, .int .i64 b, .int .i64 c, .int .i64 d, .bool f]) _ _ (by kernel_rfl) (by kernel_rfl) (key_nd a b c d f ha hb hc hd) (key_nd a b c d f ha hb hc hd)
  rw [show (10000 : Nat) = 9990 + 10 from rfl, hr, hiff.2 rfl]
theorem Tok.ins {T : List Nd} (h : Tok T) (k : Nat) (hb : hasB T k = true) : InI (T.getD k default).id ∧ InI (T.getD k default).par ∧ InI (T.getD k default).kind ∧ InI (T.getD k default).lim := by
  obtain ⟨k1, k2, k3⟩ := hasB_nat.1 hb
  have h1 := (h.idk k (by omega)).resolve_left k3
  have h2 := h.inv k hb
  have h3 := h.lim k hb
  have hp : 0 ≤ (T.getD k default).par ∧ (T.getD k default).par ≤ 32 := by
    by_cases q : (T.getD k default).kind = 1
    · rw [h2.2.2.1 q]; omega
    · have := hasB_iff.1 (h2.2.2.2 q).1
      omega
  unfold InI
  omega
theorem cs_full : Full (Cs 33) := by
  have h : ∀ k : Nat, k ≤ 32 → 1 ≤ k → hasB (Cs 33) k = true := by decide +kernel
  exact fun k h1 h2 => h k h2 h1
set_option maxRecDepth 100000 in
set_option maxHeartbeats 4000000 in
theorem full_any (a1 : Option Addr) (l1 c1 : Nat) (a2 : Option Addr) (l2 c2 : Nat) (ps cs : List Int) (w : World) (h1 : ReadsI w a1 l1 ps) (h2 : ReadsI w a2 l2 cs) :
    Calls Try.prog 3 #[.slice a1 l1 c1, .slice a2 l2 c2] w fun e w' => e = .returned (.bool true) ∧ Only (fun _ => False) w w' := by
  have H1 := Lib.hid h1
  have H2 := Lib.hid h2
  clear h1 h2
  go_enter Try.func3, Try.ntmps3
  go_wp2_with fail
  refine (newB w.heap.size w (Nat.le_refl _)).mono ?_
  rintro _ w1 ⟨rfl, ht, ho⟩
  have HT1 := Lib.hid ht
  have HO1 : Hid (Only (fun q => w.heap.size ≤ q) w w1) := Lib.hid (ho.mono (fun _ _ f => f.elim))
  have hs1 := ho.size
  clear ht ho
  go_wp2_with fail
  refine (newB w.heap.size w1 hs1).mono ?_
  rintro _ w2 ⟨rfl, ht, ho⟩
  have HU2 := Lib.hid ht
  have HT2 := Lib.hid (HT1.out.only ho)
  have HO2 : Hid (Only (fun q => w.heap.size ≤ q) w w2) := Lib.hid (HO1.out.trans (ho.mono (fun _ _ f => f.elim)))
  have hpq : Hid (w.heap.size ≠ w1.heap.size) := Lib.hid (fun e => by have := HT1.out.1.lt; omega)
  clear ht ho HO1 HT1 hs1
  generalize w1.heap.size = q at *
  obtain ⟨p, hp⟩ : ∃ p, p = w.heap.size := ⟨_, rfl⟩
  simp only [← hp] at HT2 HU2 HO2 hpq ⊢
  have HP0 := Lib.hid hp
  clear hp
  go_wp2_with fail
  refine (trees_any _).mono ?_
  rintro _ w3 ⟨rfl, ho⟩
  have HU3 := Lib.hid (HU2.out.only ho)
  have HT3 := Lib.hid (HT2.out.only ho)
  have HO3 : Hid (Only (fun q => p ≤ q) w w3) := Lib.hid (HO2.out.trans (ho.mono (fun _ _ f => f.elim)))
  clear ho HO2 HT2 HU2
  go_wp2_with fail
  go_loopw [7] (fun iv wr => ∃ k : Nat, k ≤ 33 ∧ iv = .int .i64 ((k + 1 : Nat) : Int) ∧ Hid (TB p wr p (Cs k)) ∧ Hid (TB p wr q T0) ∧ Hid (Only (fun q => p ≤ q) w wr)) (fun iv _ => 34 - (intOf iv).toNat)
  case atStart => exact ⟨0, by omega, rfl, HT3, HU3, HO3⟩
  case round =>
    obtain ⟨k, hk, rfl, HT, HU, HO⟩ := hrel
    by_cases h8 : k < 33
    · have hk1 : ((k + 1 : Nat) : Int) ≤ 33 := by omega
      have hk0 : (1 : Int) ≤ ((k + 1 : Nat) : Int) := by omega
      generalize hi : ((k + 1 : Nat) : Int) = i at *
      have HI := Lib.hid hi
      clear hi
      by_cases hm : 1 < 1 + (i - 1) % 3
      · have HMK : Hid (mkN (k + 1) = ⟨i, i - 1, 1 + (i - 1) % 3, i, false⟩) := Lib.hid (by unfold mkN; rw [HI.out, if_pos hm])
        have HC := Lib.hid (createB HT.out i (i - 1) (1 + (i - 1) % 3) i)
        have HE := Lib.hid (cs_ok k h8)
        have HN : Hid (putT (Cs k) ⟨i, i - 1, 1 + (i - 1) % 3, i, false⟩ = Cs (k + 1)) := Lib.hid (by rw [← HMK.out]; rfl)
        rw [← HMK.out] at HC HN
        clear HMK
        go_wp2_with fail
        refine HC.out.mono ?_
        rintro _ w4 ⟨rfl, ht, ho⟩
        rw [HE.out]
        rw [HN.out] at ht
        have HT4 := Lib.hid ht
        have HU4 : Hid (TB p w4 q T0) := Lib.hid ⟨HU.out.1.only ho (fun e => hpq.out e.symm), HU.out.2⟩
        have HO4 : Hid (Only (fun q => p ≤ q) w w4) := Lib.hid (HO.out.trans (ho.mono (fun _ _ e => by omega)))
        clear ht ho HC HT HU HO
        by_cases h9 : k < 32
        · rw [if_pos h9]
          have hi9 : i ≤ 32 := by have := HI.out; omega
          go_wp2_with fail
          go_roundw
          case rel => exact ⟨k + 1, by omega, by rw [← HI.out]; go_num, HT4, HU4, HO4⟩
          case measure => simp [intOf]; omega
        · rw [if_neg h9]
          have hi9 : ¬ i ≤ 32 := by have := HI.out; omega
          go_wp2_with fail
          go_roundw
          case rel => exact ⟨k + 1, by omega, by rw [← HI.out]; go_num, HT4, HU4, HO4⟩
          case measure => simp [intOf]; omega
      · have HMK : Hid (mkN (k + 1) = ⟨i, 0, 1 + (i - 1) % 3, i, false⟩) := Lib.hid (by unfold mkN; rw [HI.out, if_neg hm])
        have HC := Lib.hid (createB HT.out i (0) (1 + (i - 1) % 3) i)
        have HE := Lib.hid (cs_ok k h8)
        have HN : Hid (putT (Cs k) ⟨i, 0, 1 + (i - 1) % 3, i, false⟩ = Cs (k + 1)) := Lib.hid (by rw [← HMK.out]; rfl)
        rw [← HMK.out] at HC HN
        clear HMK
        go_wp2_with fail
        refine HC.out.mono ?_
        rintro _ w4 ⟨rfl, ht, ho⟩
        rw [HE.out]
        rw [HN.out] at ht
        have HT4 := Lib.hid ht
        have HU4 : Hid (TB p w4 q T0) := Lib.hid ⟨HU.out.1.only ho (fun e => hpq.out e.symm), HU.out.2⟩
        have HO4 : Hid (Only (fun q => p ≤ q) w w4) := Lib.hid (HO.out.trans (ho.mono (fun _ _ e => by omega)))
        clear ht ho HC HT HU HO
        by_cases h9 : k < 32
        · rw [if_pos h9]
          have hi9 : i ≤ 32 := by have := HI.out; omega
          go_wp2_with fail
          go_roundw
          case rel => exact ⟨k + 1, by omega, by rw [← HI.out]; go_num, HT4, HU4, HO4⟩
          case measure => simp [intOf]; omega
        · exfalso; have := HI.out; omega
    · obtain rfl : k = 33 := by omega
      rw [show ((33 + 1 : Nat) : Int) = 34 from rfl]
      go_upto_block 2 with fail
      have HFU : Hid (Full (Cs 33)) := Lib.hid cs_full
      generalize Cs 33 = T at *
      go_cut [11] from 50 to 78 (fun iv wx => ∃ T, Hid (TB p wx p T) ∧ Hid (Full T) ∧ Hid (TB p wx q T0) ∧ Hid (Only (fun q => p ≤ q) w wx))
      case first =>
        clear HT3 HU3 HO3
        rename World => w4
        go_wp2_with fail
        go_loopw [11] (fun iv wr => ∃ (k : Nat) (T : List Nd), k ≤ 20 ∧ iv = .int .i64 (k : Int) ∧ Hid (TB p wr p T) ∧ Hid (Full T) ∧ Hid (TB p wr q T0) ∧ Hid (Only (fun q => p ≤ q) w wr)) (fun iv _ => 20 - (intOf iv).toNat)
        case atStart => exact ⟨0, T, by omega, rfl, HT, HFU, HU, HO⟩
        case round =>
          obtain ⟨k, T, hk, rfl, HT, HFU, HU, HO⟩ := hrel
          by_cases h8 : k < l1
          · by_cases h20 : k < 20
            · obtain ⟨b, off, rfl, hcell⟩ := H1.out.2.2.2.resolve_left (by omega)
              have hm1 := H1.out.2.1
              unfold maxLen at hm1
              have e1 := HO.out.cell' (hcell k h8) (fun e => by have := World.block_lt_of_cell? w _ (hcell k h8); have := HP0.out; simp only at *; omega)
              clear hcell
              have hk1 : (k : Int) < l1 := by omega
              have hk2 : (k : Int) < 20 := by omega
              generalize ps.getD k 0 = y at *
              have HMV : Hid (∀ (x z : Int), _) := Lib.hid (fun x z => (moveB (w := wr.drew) (HT.out.only (Only.refl _ _).drew) x z).mono (fun e w' h => (⟨h, HFU.out.move HT.out.2.2 x z⟩ : DidB p p (movT T x z) (movE T x z) wr.drew e w' ∧ Full (movT T x z))))
              go_upto_region 17 with fail
              refine wp_region_noPanic ?_
              refine late.region (fun w' => ∀ q, w'.cell? q = wr.cell? q) (fun j => [18].contains j) (by kernel_rfl) (fun q => by simp) (fun hHeld => ?_)
              refine late.take (i := 0) [18] (v := ?_) rfl (by kernel_rfl) (by kernel_rfl) (by kernel_rfl) (by kernel_rfl) (fun _ _ _ h => h) (Or.inl ⟨by rfl, ?_⟩) (by assumption) ?_
              rotate_left 1
              · intro w' hSw
                try dsimp only at hSw
                go_simp
                try with_reducible rfl
              try simp only [List.getElem_toArray, List.getElem_cons_zero, Act.put, List.setIfInBounds_toArray, List.set_cons_zero, List.set_cons_succ]
              refine late.take (i := 1) [3, 4, 5, 6, 7, 8, 18] (v := ?_) rfl (by kernel_rfl) (by kernel_rfl) (by kernel_rfl) (by kernel_rfl) (fun _ _ _ h => h) (Or.inl ⟨by rfl, ?_⟩) (by assumption) ?_
              rotate_left 1
              · intro w' hSw
                try dsimp only at hSw
                go_simp
                try with_reducible rfl
              try simp only [List.getElem_toArray, List.getElem_cons_zero, List.getElem_cons_succ, Act.put, List.setIfInBounds_toArray, List.set_cons_zero, List.set_cons_succ]
              refine late.take (i := 2) [3, 4, 5, 6, 7, 8, 18] (v := ?_) rfl (by kernel_rfl) (by kernel_rfl) (by kernel_rfl) (by kernel_rfl) (fun _ _ _ h => h) (Or.inl ⟨by rfl, ?_⟩) (by assumption) ?_
              rotate_left 1
              · intro w' hSw
                try dsimp only at hSw
                go_simp
                try with_reducible rfl
              try simp only [List.getElem_toArray, List.getElem_cons_zero, List.getElem_cons_succ, Act.put, List.setIfInBounds_toArray, List.set_cons_zero, List.set_cons_succ]
              refine late.take (i := 3) [4, 5, 6, 7, 8, 18] (v := ?_) rfl (by kernel_rfl) (by kernel_rfl) (by kernel_rfl) (by kernel_rfl) (fun _ _ _ h => h) (Or.inl ⟨by rfl, ?_⟩) (by assumption) ?_
              rotate_left 1
              · intro w' hSw
                try dsimp only at hSw
                go_simp
                try with_reducible rfl
              try simp only [List.getElem_toArray, List.getElem_cons_zero, List.getElem_cons_succ, Act.put, List.setIfInBounds_toArray, List.set_cons_zero, List.set_cons_succ]
              refine late.take (i := 4) [5, 6, 7, 8, 18] (v := ?_) rfl (by kernel_rfl) (by kernel_rfl) (by kernel_rfl) (by kernel_rfl) (fun _ _ _ h => h) (Or.inl ⟨by rfl, ?_⟩) (by assumption) ?_
              rotate_left 1
              · intro w' hSw
                try dsimp only at hSw
                go_simp
                try with_reducible rfl
              try simp only [List.getElem_toArray, List.getElem_cons_zero, List.getElem_cons_succ, Act.put, List.setIfInBounds_toArray, List.set_cons_zero, List.set_cons_succ]
              refine late.take (i := 5) [6, 7, 8, 18] (v := ?_) rfl (by kernel_rfl) (by kernel_rfl) (by kernel_rfl) (by kernel_rfl) (fun _ _ _ h => h) (Or.inl ⟨by rfl, ?_⟩) (by assumption) ?_
              rotate_left 1
              · intro w' hSw
                try dsimp only at hSw
                go_simp
                try with_reducible rfl
              try simp only [List.getElem_toArray, List.getElem_cons_zero, List.getElem_cons_succ, Act.put, List.setIfInBounds_toArray, List.set_cons_zero, List.set_cons_succ]
              refine late.take (i := 6) [7, 8, 18] (v := ?_) rfl (by kernel_rfl) (by kernel_rfl) (by kernel_rfl) (by kernel_rfl) (fun _ _ _ h => h) (Or.inl ⟨by rfl, ?_⟩) (by assumption) ?_
              rotate_left 1
              · intro w' hSw
                try dsimp only at hSw
                go_simp
                try with_reducible rfl
              try simp only [List.getElem_toArray, List.getElem_cons_zero, List.getElem_cons_succ, Act.put, List.setIfInBounds_toArray, List.set_cons_zero, List.set_cons_succ]
              refine late.take (i := 7) [8, 18] (v := ?_) rfl (by kernel_rfl) (by kernel_rfl) (by kernel_rfl) (by kernel_rfl) (fun _ _ _ h => h) (Or.inl ⟨by rfl, ?_⟩) (by assumption) ?_
              rotate_left 1
              · intro w' hSw
                try dsimp only at hSw
                go_simp
                try with_reducible rfl
              try simp only [List.getElem_toArray, List.getElem_cons_zero, List.getElem_cons_succ, Act.put, List.setIfInBounds_toArray, List.set_cons_zero, List.set_cons_succ]
              refine late.take (i := 8) [18] (v := ?_) rfl (by kernel_rfl) (by kernel_rfl) (by kernel_rfl) (by kernel_rfl) (fun _ _ _ h => h) (Or.inl ⟨by rfl, ?_⟩) (by assumption) ?_
              rotate_left 1
              · intro w' hSw
                try dsimp only at hSw
                go_simp
                try with_reducible rfl
              try simp only [List.getElem_toArray, List.getElem_cons_zero, List.getElem_cons_succ, Act.put, List.setIfInBounds_toArray, List.set_cons_zero, List.set_cons_succ]
              refine late.take (i := 9) [11, 12, 13, 14, 15, 16, 17, 18] (v := ?_) rfl (by kernel_rfl) (by kernel_rfl) (by kernel_rfl) (by kernel_rfl) (fun _ _ _ h => h) (Or.inl ⟨by rfl, ?_⟩) (by assumption) ?_
              rotate_left 1
              · intro w' hSw
                try dsimp only at hSw
                go_simp
                try with_reducible rfl
              try simp only [List.getElem_toArray, List.getElem_cons_zero, List.getElem_cons_succ, Act.put, List.setIfInBounds_toArray, List.set_cons_zero, List.set_cons_succ]
              refine late.take (i := 10) [11, 12, 13, 14, 15, 16, 17, 18] (v := ?_) rfl (by kernel_rfl) (by kernel_rfl) (by kernel_rfl) (by kernel_rfl) (fun _ _ _ h => h) (Or.inl ⟨by rfl, ?_⟩) (by assumption) ?_
              rotate_left 1
              · intro w' hSw
                try dsimp only at hSw
                go_simp
                try with_reducible rfl
              try simp only [List.getElem_toArray, List.getElem_cons_zero, List.getElem_cons_succ, Act.put, List.setIfInBounds_toArray, List.set_cons_zero, List.set_cons_succ]
              refine late.take (i := 11) [12, 13, 14, 15, 16, 17, 18] (v := ?_) rfl (by kernel_rfl) (by kernel_rfl) (by kernel_rfl) (by kernel_rfl) (fun _ _ _ h => h) (Or.inl ⟨by rfl, ?_⟩) (by assumption) ?_
              rotate_left 1
              · intro w' hSw
                try dsimp only at hSw
                go_simp
                try with_reducible rfl
              try simp only [List.getElem_toArray, List.getElem_cons_zero, List.getElem_cons_succ, Act.put, List.setIfInBounds_toArray, List.set_cons_zero, List.set_cons_succ]
              refine late.take (i := 12) [13, 14, 15, 16, 17, 18] (v := ?_) rfl (by kernel_rfl) (by kernel_rfl) (by kernel_rfl) (by kernel_rfl) (fun _ _ _ h => h) (Or.inl ⟨by rfl, ?_⟩) (by assumption) ?_
              rotate_left 1
              · intro w' hSw
                try dsimp only at hSw
                go_simp
                try with_reducible rfl
              try simp only [List.getElem_toArray, List.getElem_cons_zero, List.getElem_cons_succ, Act.put, List.setIfInBounds_toArray, List.set_cons_zero, List.set_cons_succ]
              refine late.take (i := 13) [14, 15, 16, 17, 18] (v := ?_) rfl (by kernel_rfl) (by kernel_rfl) (by kernel_rfl) (by kernel_rfl) (fun _ _ _ h => h) (Or.inl ⟨by rfl, ?_⟩) (by assumption) ?_
              rotate_left 1
              · intro w' hSw
                try dsimp only at hSw
                go_simp
                try with_reducible rfl
              try simp only [List.getElem_toArray, List.getElem_cons_zero, List.getElem_cons_succ, Act.put, List.setIfInBounds_toArray, List.set_cons_zero, List.set_cons_succ]
              refine late.take (i := 14) [15, 16, 17, 18] (v := ?_) rfl (by kernel_rfl) (by kernel_rfl) (by kernel_rfl) (by kernel_rfl) (fun _ _ _ h => h) (Or.inl ⟨by rfl, ?_⟩) (by assumption) ?_
              rotate_left 1
              · intro w' hSw
                try dsimp only at hSw
                go_simp
                try with_reducible rfl
              try simp only [List.getElem_toArray, List.getElem_cons_zero, List.getElem_cons_succ, Act.put, List.setIfInBounds_toArray, List.set_cons_zero, List.set_cons_succ]
              refine late.take (i := 15) [16, 17, 18] (v := ?_) rfl (by kernel_rfl) (by kernel_rfl) (by kernel_rfl) (by kernel_rfl) (fun _ _ _ h => h) (Or.inl ⟨by rfl, ?_⟩) (by assumption) ?_
              rotate_left 1
              · intro w' hSw
                try dsimp only at hSw
                go_simp
                try with_reducible rfl
              try simp only [List.getElem_toArray, List.getElem_cons_zero, List.getElem_cons_succ, Act.put, List.setIfInBounds_toArray, List.set_cons_zero, List.set_cons_succ]
              refine late.take (i := 16) [17, 18] (v := ?_) rfl (by kernel_rfl) (by kernel_rfl) (by kernel_rfl) (by kernel_rfl) (fun _ _ _ h => h) (Or.inl ⟨by rfl, ?_⟩) (by assumption) ?_
              rotate_left 1
              · intro w' hSw
                try dsimp only at hSw
                go_simp
                try with_reducible rfl
              try simp only [List.getElem_toArray, List.getElem_cons_zero, List.getElem_cons_succ, Act.put, List.setIfInBounds_toArray, List.set_cons_zero, List.set_cons_succ]
              refine late.take (i := 17) [18] (v := ?_) rfl (by kernel_rfl) (by kernel_rfl) (by kernel_rfl) (by kernel_rfl) (fun _ _ _ h => h) (Or.inl ⟨by rfl, ?_⟩) (by assumption) ?_
              rotate_left 1
              · intro w' hSw
                try dsimp only at hSw
                go_simp
                try with_reducible rfl
              try simp only [List.getElem_toArray, List.getElem_cons_zero, List.getElem_cons_succ, Act.put, List.setIfInBounds_toArray, List.set_cons_zero, List.set_cons_succ]
              refine late.ready (rs := [18]) (by kernel_rfl) (by simp) ?_
              refine late.Each.cons rfl (fun K hK => ?_) late.Each.nil
              try simp only [List.getElem_toArray, List.getElem_cons_zero, List.getElem_cons_succ]
              go_simp
              refine (HMV.out _ _).mono ?_
              rintro _ w5 ⟨⟨rfl, ht, ho⟩, hf⟩
              have HT5 := Lib.hid ht
              have HU5 : Hid (TB p w5 q T0) := Lib.hid ⟨(HU.out.1.only (Only.refl (fun _ => False) _).drew (fun f => f)).only ho (fun e => hpq.out e.symm), HU.out.2⟩
              have HO5 : Hid (Only (fun q => p ≤ q) w w5) := Lib.hid (HO.out.drew.trans (ho.mono (fun _ _ e => by omega)))
              have HF5 := Lib.hid hf
              clear ht ho hf HMV HT HU HO HFU
              try dsimp only
              refine hK.out _ _ (fun h => by cases h) (fun _ => ?_)
              clear hK K
              try simp only [List.getElem_toArray, List.getElem_cons_zero, List.getElem_cons_succ, Act.put, List.setIfInBounds_toArray, List.set_cons_zero, List.set_cons_succ]
              refine late.done (by kernel_rfl) ?_ _
              refine NoPanic.normal ?_
              go_wp2_with fail
              go_roundw
              case rel => exact ⟨k + 1, _, by omega, by go_num, HT5, HF5, HU5, HO5⟩
              case measure => simp [intOf]; omega
            · have hk2 : ¬ (k : Int) < 20 := by omega
              go_wp2_with fail
              go_meet
              exact ⟨T, HT, HFU, HU, HO⟩
          · go_wp2_with fail
            go_meet
            exact ⟨T, HT, HFU, HU, HO⟩
      case rest =>
        clear HT HU HO HFU
        obtain ⟨T, HT, HFU, HU, HO⟩ := hcut
        rename World => w5
        go_upto_block 4 with fail
        go_cut [12] from 79 to 98 (fun iv wx => ∃ T, Hid (TB p wx p T) ∧ Hid (Full T) ∧ Hid (TB p wx q T0) ∧ Hid (Only (fun q => p ≤ q) w wx))
        case first =>
          go_wp2_with fail
          go_loopw [12] (fun iv wr => ∃ (k : Nat) (T : List Nd), k ≤ 20 ∧ iv = .int .i64 (k : Int) ∧ Hid (TB p wr p T) ∧ Hid (Full T) ∧ Hid (TB p wr q T0) ∧ Hid (Only (fun q => p ≤ q) w wr)) (fun iv _ => 20 - (intOf iv).toNat)
          case atStart => exact ⟨0, T, by omega, rfl, HT, HFU, HU, HO⟩
          case round =>
            obtain ⟨k, T, hk, rfl, HT, HFU, HU, HO⟩ := hrel
            by_cases h8 : k < l2
            · by_cases h20 : k < 20
              · obtain ⟨b, off, rfl, hcell⟩ := H2.out.2.2.2.resolve_left (by omega)
                have hm1 := H2.out.2.1
                unfold maxLen at hm1
                have e1 := HO.out.cell' (hcell k h8) (fun e => by have := World.block_lt_of_cell? w _ (hcell k h8); have := HP0.out; simp only at *; omega)
                clear hcell
                have hk1 : (k : Int) < l2 := by omega
                have hk2 : (k : Int) < 20 := by omega
                generalize cs.getD k 0 = y at *
                have HCL : Hid (∀ (x : Int), _) := Lib.hid (fun x => (closeB HT.out x).mono (fun e w' h => (⟨h, HFU.out.close HT.out.2.2 x⟩ : DidB p p (cloT T x) (cloE T x) wr e w' ∧ Full (cloT T x))))
                go_wp2_with fail
                refine (HCL.out _).mono ?_
                rintro _ w6 ⟨⟨rfl, ht, ho⟩, hf⟩
                have HT5 := Lib.hid ht
                have HU5 : Hid (TB p w6 q T0) := Lib.hid ⟨HU.out.1.only ho (fun e => hpq.out e.symm), HU.out.2⟩
                have HO5 : Hid (Only (fun q => p ≤ q) w w6) := Lib.hid (HO.out.trans (ho.mono (fun _ _ e => by omega)))
                have HF5 := Lib.hid hf
                clear ht ho hf HCL HT HU HO HFU
                go_wp2_with fail
                go_roundw
                case rel => exact ⟨k + 1, _, by omega, by go_num, HT5, HF5, HU5, HO5⟩
                case measure => simp [intOf]; omega
              · have hk2 : ¬ (k : Int) < 20 := by omega
                go_wp2_with fail
                go_meet
                exact ⟨T, HT, HFU, HU, HO⟩
            · go_wp2_with fail
              go_meet
              exact ⟨T, HT, HFU, HU, HO⟩
        case rest =>
          clear HT HU HO HFU
          obtain ⟨T, HT, HFU, HU, HO⟩ := hcut
          rename World => w6
          go_wp2_with fail
          refine (ids_any p T w6 HT.out.1).mono ?_
          rintro _ w7 ⟨⟨v, rfl, a, c, rfl, hr, hb⟩, ho⟩
          rw [full_ids HFU.out] at hr ⊢
          rw [L32_len] at hr ⊢
          have HR := Lib.hid hr
          have HT7 := Lib.hid (HT.out.only ho)
          have HU7 := Lib.hid (HU.out.only ho)
          have HO7 : Hid (Only (fun q => p ≤ q) w w7) := Lib.hid (HO.out.trans (ho.mono (fun _ _ f => f.elim)))
          have HAB : Hid (∀ y, a = some y → w6.heap.size ≤ y.block) := Lib.hid hb
          have HUL : Hid (q < w6.heap.size ∧ p < w6.heap.size) := Lib.hid ⟨HU.out.1.lt, HT.out.1.lt⟩
          clear hr hb ho HT HU HO
          have HUS0 : Hid (Us T 1 0 T0) := Lib.hid (Us.zero HT7.out.2.2 HFU.out)
          go_wp2_with fail
          go_loopw [14] (fun kv wr => ∃ (K : Nat) (U : List Nd), 1 ≤ K ∧ K ≤ 4 ∧ kv = .int .i64 (K : Int) ∧ Hid (TB p wr p T) ∧ Hid (TB p wr q U) ∧ Hid (Us T K 0 U) ∧ Hid (Only (fun x => x = q) w7 wr)) (fun kv _ => 4 - (intOf kv).toNat)
          case atStart => exact ⟨1, T0, by omega, by omega, rfl, HT7, HU7, HUS0, Lib.hid (Only.refl _ _)⟩
          case round =>
            obtain ⟨K, U, hK1, hK4, rfl, HT, HU, HUS, HO⟩ := hrel
            by_cases h8 : K < 4
            · have hk1 : (K : Int) ≤ 3 := by omega
              go_wp2_with fail
              go_loopw [15] (fun iv wr => ∃ (i : Nat) (U : List Nd), i ≤ 32 ∧ iv = .int .i64 (i : Int) ∧ Hid (TB p wr p T) ∧ Hid (TB p wr q U) ∧ Hid (Us T K i U) ∧ Hid (Only (fun x => x = q) w7 wr)) (fun iv _ => 32 - (intOf iv).toNat)
              case atStart => exact ⟨0, U, by omega, rfl, HT, HU, HUS, HO⟩
              case round =>
                obtain ⟨i, U, hi, rfl, HT, HU, HUS, HO⟩ := hrel
                by_cases h9 : i < 32
                · obtain ⟨b, off, rfl, hcell⟩ := HR.out.2.2.2.resolve_left (by omega)
                  have e1 := HO.out.cell' (hcell i h9) (fun e => by have e' : b = q := e; have h1 := HAB.out _ rfl; have h2 := HUL.out; simp only at h1; omega)
                  rw [L32_get i h9] at e1
                  clear hcell
                  have hi1 : (i : Int) < 32 := by omega
                  have hi0 : (0 : Int) ≤ i := by omega
                  have hb := HFU.out (i + 1) (by omega) (by omega)
                  have HGT : Hid (Calls Try.prog 17 #[.pointer (some ⟨p, 0, none⟩), .int .i64 ((i + 1 : Nat) : Int)] wr fun e w' => e = .returned (.tuple #[aggN (T.getD (i + 1) default), .int .i64 0]) ∧ Only (fun _ => False) wr w') := Lib.hid (by
                    have := get_any p T ((i + 1 : Nat) : Int) wr HT.out.1
                    rw [got_has hb, show gotE T ((i + 1 : Nat) : Int) = 0 by unfold gotE; rw [if_pos hb]] at this
                    exact this)
                  have HPT : Hid (∀ w8, TB p w8 q U → (T.getD (i + 1) default).kind = K → Calls Try.prog 18 #[.pointer (some ⟨q, 0, none⟩), aggN (T.getD (i + 1) default)] w8 fun e w' => e = .returned (.int .i64 0) ∧ TB p w' q (putT U (T.getD (i + 1) default)) ∧ Only (fun x => x = q) w8 w' ∧ Us T K (i + 1) (putT U (T.getD (i + 1) default))) := Lib.hid (fun w8 h8 hk => by
                    obtain ⟨q1, q2⟩ := HUS.out.put HT.out.2.2 h8.2.2 HFU.out h9 hk
                    refine (putB h8 _ _ _ _ _).mono ?_
                    rintro e w' ⟨p1, p2, p3⟩
                    rw [show (⟨(T.getD (i + 1) default).id, (T.getD (i + 1) default).par, (T.getD (i + 1) default).kind, (T.getD (i + 1) default).lim, (T.getD (i + 1) default).cl⟩ : Nd) = T.getD (i + 1) default from rfl] at p1 p2
                    rw [q1] at p1
                    exact ⟨p1, p2, p3, q2⟩)
                  have HSK : Hid ((T.getD (i + 1) default).kind ≠ K → Us T K (i + 1) U) := Lib.hid HUS.out.skip
                  generalize putT U (T.getD (i + 1) default) = U' at HPT
                  generalize T.getD (i + 1) default = n at HGT HPT HSK
                  obtain ⟨ni, np, nk, nl, nc⟩ := n
                  unfold aggN at HGT HPT
                  dsimp only at HGT HPT HSK
                  clear hb HUS
                  go_wp2_with fail
                  refine HGT.out.mono ?_
                  rintro _ w8 ⟨rfl, ho⟩
                  have HO8 := Lib.hid (HO.out.trans (ho.mono (fun _ _ f => f.elim)))
                  have HT8 := Lib.hid (HT.out.only ho)
                  have HU8 := Lib.hid (HU.out.only ho)
                  obtain ⟨d0, d1, d2, d3, d4, ho9⟩ := node_box 33 (.int .i64 ni) (.int .i64 np) (.int .i64 nk) (.int .i64 nl) (.bool nc) (Only.refl (fun _ => False) w8)
                  have HT9 := Lib.hid (HT8.out.only ho9)
                  have HU9 := Lib.hid (HU8.out.only ho9)
                  have HO9 := Lib.hid (HO8.out.trans (ho9.mono (fun _ _ f => f.elim)))
                  clear ho ho9 HGT HT HU HO HT8 HU8 HO8
                  by_cases hkk : nk = K
                  · subst hkk
                    go_wp2_with fail
                    refine (HPT.out _ HU9.out (by first | rfl | trivial)).mono ?_
                    rintro _ w9 ⟨rfl, hu, ho, hus⟩
                    have HU10 := Lib.hid hu
                    have HUS10 := Lib.hid hus
                    have HT10 : Hid (TB p w9 p T) := Lib.hid ⟨HT9.out.1.only ho (fun e => hpq.out e), HT9.out.2⟩
                    have HO10 := Lib.hid (HO9.out.trans ho)
                    clear hu hus ho HT9 HU9 HO9 d0 d1 d2 d3 d4
                    go_wp2_with fail
                    go_roundw
                    case rel => exact ⟨i + 1, U', by omega, by go_num, HT10, HU10, HUS10, HO10⟩
                    case measure => simp [intOf]; omega
                  · have hk2 : (nk == (K : Int)) = false := by simpa using hkk
                    have HUS10 := Lib.hid (HSK.out hkk)
                    clear hkk
                    go_wp2_with fail
                    go_roundw
                    case rel => exact ⟨i + 1, U, by omega, by go_num, HT9, HU9, HUS10, HO9⟩
                    case measure => simp [intOf]; omega
                · obtain rfl : i = 32 := by omega
                  have HUN : Hid (Us T ((K + 1 : Nat) : Int) 0 U) := Lib.hid HUS.out.next
                  go_wp2_with fail
                  go_roundw
                  case rel => exact ⟨K + 1, U, by omega, by omega, by go_num, HT, HU, HUN, HO⟩
                  case measure => simp [intOf]; omega
            · obtain rfl : K = 4 := by omega
              rename World => wk
              have HAL : Hid (∀ k : Nat, 1 ≤ k → k ≤ 32 → U.getD k default = T.getD k default) := Lib.hid (fun k h1 h2 => HUS.out.all HT.out.2.2 HFU.out k h1 h2)
              rw [show ((4 : Nat) : Int) = 4 from rfl]
              have HT7' : Hid (p ≤ q) := Lib.hid HU7.out.2.1
              clear HUS HT7 HU7 HUS0
              go_wp2_with fail
              go_loopw [18] (fun iv wz => ∃ i : Nat, i ≤ 32 ∧ iv = .int .i64 (i : Int) ∧ Hid (Only (fun _ => False) wk wz)) (fun iv _ => 32 - (intOf iv).toNat)
              case atStart => exact ⟨0, by omega, rfl, Lib.hid (Only.refl _ _)⟩
              case round =>
                obtain ⟨i, hi, rfl, HZ⟩ := hrel
                by_cases h9 : i < 32
                · obtain ⟨b, off, rfl, hcell⟩ := HR.out.2.2.2.resolve_left (by omega)
                  have e1 := HZ.out.cell' (HO.out.cell' (hcell i h9) (fun e => by have e' : b = q := e; have h1 := HAB.out _ rfl; have h2 := HUL.out; simp only at h1; omega)) (fun f => f)
                  rw [L32_get i h9] at e1
                  have E1 := Lib.hid e1
                  clear hcell
                  have hi1 : (i : Int) < 32 := by omega
                  have hi0 : (0 : Int) ≤ i := by omega
                  have hb := HFU.out (i + 1) (by omega) (by omega)
                  have hu := HAL.out (i + 1) (by omega) (by omega)
                  have hbu : hasB U ((i + 1 : Nat) : Int) = true := by
                    have := hasB_nat.1 hb
                    exact hasB_nat.2 ⟨this.1, this.2.1, by rw [hu]; exact this.2.2⟩
                  have HGT : Hid (∀ wy, Only (fun _ => False) wk wy → Calls Try.prog 17 #[.pointer (some ⟨p, 0, none⟩), .int .i64 ((i + 1 : Nat) : Int)] wy fun e w' => e = .returned (.tuple #[aggN (T.getD (i + 1) default), .int .i64 0]) ∧ Only (fun _ => False) wy w') := Lib.hid (fun wy ho => by
                    have := get_any p T ((i + 1 : Nat) : Int) wy (HT.out.only ho).1
                    rw [got_has hb, show gotE T ((i + 1 : Nat) : Int) = 0 by unfold gotE; rw [if_pos hb]] at this
                    exact this)
                  have HGU : Hid (∀ wy, Only (fun _ => False) wk wy → Calls Try.prog 17 #[.pointer (some ⟨q, 0, none⟩), .int .i64 ((i + 1 : Nat) : Int)] wy fun e w' => e = .returned (.tuple #[aggN (T.getD (i + 1) default), .int .i64 0]) ∧ Only (fun _ => False) wy w') := Lib.hid (fun wy ho => by
                    have := get_any q U ((i + 1 : Nat) : Int) wy (HU.out.only ho).1
                    rw [got_has hbu, hu, show gotE U ((i + 1 : Nat) : Int) = 0 by unfold gotE; rw [if_pos hbu]] at this
                    exact this)
                  obtain ⟨j1, j2, j3, j4⟩ := HT.out.2.2.ins (i + 1) hb
                  have HEQ := Lib.hid (nd_eq _ _ _ _ (T.getD (i + 1) default).cl j1 j2 j3 j4)
                  clear j1 j2 j3 j4 hb hu hbu
                  generalize T.getD (i + 1) default = n at HGT HGU HEQ
                  obtain ⟨ni, np, nk, nl, nc⟩ := n
                  unfold aggN at HGT HGU
                  dsimp only at HGT HGU HEQ
                  go_wp2_with fail
                  refine (HGT.out _ HZ.out).mono ?_
                  rintro _ w8 ⟨rfl, ho⟩
                  obtain ⟨d0, d1, d2, d3, d4, ho9⟩ := node_box 33 (.int .i64 ni) (.int .i64 np) (.int .i64 nk) (.int .i64 nl) (.bool nc) (Only.refl (fun _ => False) w8)
                  have HZ9 := Lib.hid (HZ.out.trans (ho.trans ho9))
                  replace e1 := (ho.trans ho9).cell' e1 (fun f => f)
                  clear ho ho9
                  obtain ⟨w9, hw9⟩ : ∃ x, x = w8.alloc (.cells #[.int .i64 ni, .int .i64 np, .int .i64 nk, .int .i64 nl, .bool nc] 33) := ⟨_, rfl⟩
                  obtain ⟨g8, hg8⟩ : ∃ x, x = w8.heap.size := ⟨_, rfl⟩
                  rw [← hw9] at HZ9 e1
                  rw [← hw9, ← hg8] at d0 d1 d2 d3 d4
                  go_upto_region 36 with fail
                  rw [← hw9, ← hg8]
                  clear hw9 hg8
                  go_wp2_with fail
                  refine (HGU.out _ HZ9.out).mono ?_
                  rintro _ w10 ⟨rfl, ho⟩
                  obtain ⟨f0, f1, f2, f3, f4, ho9⟩ := node_box 33 (.int .i64 ni) (.int .i64 np) (.int .i64 nk) (.int .i64 nl) (.bool nc) (Only.refl (fun _ => False) w10)
                  have HZ11 := Lib.hid (HZ9.out.trans (ho.trans ho9))
                  have ho10 := ho.trans ho9
                  replace d0 := ho10.cell' d0 (fun f => f)
                  replace d1 := ho10.cell' d1 (fun f => f)
                  replace d2 := ho10.cell' d2 (fun f => f)
                  replace d3 := ho10.cell' d3 (fun f => f)
                  replace d4 := ho10.cell' d4 (fun f => f)
                  have heq := HEQ.out
                  clear ho ho9 ho10 e1 HGT HGU HEQ
                  go_wp2_with fail
                  go_roundw
                  case rel => exact ⟨i + 1, by omega, by go_num, HZ11⟩
                  case measure => simp [intOf]; omega
                · obtain rfl : i = 32 := by omega
                  have HEND : Hid (Only (fun _ => False) w wr) := Lib.hid ((((HO7.out.trans (HO.out.mono (fun k hk e => by have := HT7'.out; omega))).trans (HZ.out.mono (fun _ _ f => f.elim)))).mono (fun k hk hs => by have := HP0.out; omega))
                  go_wp2_with fail
                  go_ret
                  exact ⟨rfl, HEND.out⟩
end Go.Proofs.Ytginfnceindojaa.tre
