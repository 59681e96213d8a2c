/- The disk: Dirty and Crash. -/
import Derived.Test.YtcbpgplmphgcgaaDsk8
namespace Go.Proofs.Ytcbpgplmphgcgaa.dskw
open Go.RowKit mem Go.Maps
set_option linter.unusedVariables false

theorem nums_base {w w1 w' : World} {v : Value} {ss : List Nat} (h : NewNums w1 w' v ss) (hb : Below w.heap.size w w1) : NewNums w w' v ss := by
  have hs := hb.size
  obtain ⟨h1, h2, h3⟩ := h
  refine ⟨⟨h1.1, ?_⟩, h2, hb.trans (h3.mono hs)⟩
  rcases h1.2 with h0 | ⟨g, cap, cur, hv, hg, rest⟩
  · exact .inl h0
  · exact .inr ⟨g, cap, cur, hv, Nat.le_trans hs hg, rest⟩

set_option maxHeartbeats 1000000 in
theorem dirty_any (p bl bm n : Nat) (L : Nat → List Nat) (C : Nat → Option (List Nat)) (cut : Int) (off : Bool) (w : World) (h : DskAt w p bl bm n L C cut off) :
    Calls Try.prog 30 #[.pointer (some ⟨p, 0, none⟩)] w fun e w' => ∃ v, e = .returned v ∧ NewNums w w' v (dirtyL C n) := by
  have hb1 : Below w.heap.size w (w.alloc (.cells #[.map (some bm)] 95)) := (Below.refl _ w).alloc (Nat.le_refl _) _
  have hseq := keys_give Fence.wide 1 trivial rfl (Nat.le_refl _) w.heap.size bm n h.n2 C (w.alloc (.cells #[.map (some bm)] 95)) (by simp) (by simp) (h.map.only (Only.of_below hb1) (fun f => f))
  have HK := Lib.hid (callsIn_wide.1 (keys_in Fence.wide 0 trivial rfl (some bm) w))
  have HS := Lib.hid (sorted_any _ _ (enters_of Try.func80 (by kernel_rfl) rfl) C n h.n2 (fun i => h.map.bound (i := i)) _ hseq)
  have HB := Lib.hid hb1
  have c1 := h.c1
  clear h hb1 hseq
  go_enter Try.func30, Try.ntmps30
  go_wp2_with fail
  refine (HK.out).mono ?_
  rintro e w1 ⟨rfl, rfl⟩
  go_wp2_with fail
  refine (HS.out).mono ?_
  rintro e w' ⟨v, rfl, hv⟩
  have HV := Lib.hid (nums_base hv HB.out)
  clear hv
  go_wp2_with fail
  go_ret
  exact ⟨_, rfl, HV.out⟩
theorem dirty_nil (w : World) : Calls Try.prog 30 #[.pointer none] w fun e w' => e = .returned (.slice none 0 0) ∧ w = w' := by
  go_enter Try.func30, Try.ntmps30
  go_wp2
  go_ret
  exact ⟨rfl, rfl⟩

/-- a slice of bools that is handed in -/
def Bools (w : World) (a : Option Addr) (len : Nat) (kl : List Bool) : Prop :=
  kl.length = len ∧ len ≤ 9223372036854775807 ∧ (len = 0 ∨ ∃ b o, a = some ⟨b, o, none⟩ ∧ ∀ j, j < len → w.cell? ⟨b, o + j, none⟩ = some (.bool (kl.getD j false)))
theorem Bools.only {S : Nat → Prop} {w w' : World} {a : Option Addr} {len : Nat} {kl : List Bool} (h : Bools w a len kl) (ho : Only S w w') (hs : ∀ x, a = some x → ¬ S x.block) : Bools w' a len kl := by
  obtain ⟨h1, h2, h3⟩ := h
  refine ⟨h1, h2, ?_⟩
  rcases h3 with h0 | ⟨b, o, ha, hc⟩
  · exact .inl h0
  · exact .inr ⟨b, o, ha, fun j hj => ho.cell' (hc j hj) (show ¬ S b from hs _ ha)⟩

/-- the sectors behind k of those in the cache -/
def crN (L : Nat → List Nat) (C : Nat → Option (List Nat)) (kl : List Bool) (ds : List Nat) : Nat → (Nat → List Nat)
  | 0 => L
  | k + 1 => if kl.getD k false = true then updL (crN L C kl ds k) (ds.getD k 0) ((C (ds.getD k 0)).getD zeros) else crN L C kl ds k
/-- what lasts behind a crash -/
def crL (L : Nat → List Nat) (C : Nat → Option (List Nat)) (kl : List Bool) (n : Nat) : Nat → List Nat := crN L C kl (dirtyL C n) (dirtyL C n).length

theorem crash_nil (a : Option Addr) (len cap : Nat) (w : World) : Calls Try.prog 34 #[.pointer none, .slice a len cap] w fun e w' => e = .returned (.tuple #[]) ∧ w = w' := by
  go_enter Try.func34, Try.ntmps34
  go_wp2
  refine bodyPost_ret (v := .tuple #[]) (by simp [results, Try.results34, go_sem]) rfl ⟨rfl, rfl⟩

set_option maxRecDepth 100000 in
set_option maxHeartbeats 1000000 in
theorem crash_any (p bl bm n : Nat) (L : Nat → List Nat) (C : Nat → Option (List Nat)) (cut : Int) (off : Bool) (a : Option Addr) (len cap : Nat) (kl : List Bool) (w : World) (h : DskAt w p bl bm n L C cut off) (hk : Bools w a len kl) (ha : 0 < len → ∀ x, a = some x → ¬ Dbl p bl bm x.block) :
    Calls Try.prog 34 #[.pointer (some ⟨p, 0, none⟩), .slice a len cap] w fun e w' => e = .returned (.tuple #[]) ∧ DAft p bl bm n w w' (crL L C kl n) (fun _ => none) 0 false := by
  have HDR := Lib.hid (dirty_any p bl bm n L C cut off w h)
  have HD := Lib.hid h
  have HK := Lib.hid hk
  have HA := Lib.hid ha
  have hn2 := h.n2
  clear h hk ha
  go_enter Try.func34, Try.ntmps34
  go_wp2_with fail
  refine (HDR.out).mono ?_
  rintro e w1 ⟨v, rfl, hrow, hnil, hbl⟩
  have HO1 : Hid (Only (fun _ => False) w w1) := Lib.hid (Only.of_below hbl)
  obtain ⟨cp, ad, rfl, hcell⟩ : ∃ cp ad, v = .slice ad (dirtyL C n).length cp ∧ ∀ j, j < (dirtyL C n).length → ∃ g, ad = some ⟨g, 0, none⟩ ∧ w.heap.size ≤ g ∧ w1.cell? ⟨g, j, none⟩ = some (.int .i64 ((dirtyL C n).getD j 0 : Nat)) := by
    rcases hrow.2 with ⟨hv, hz⟩ | ⟨g, cp, cu, hv, hg, hblk, h1, h2, h3, h4⟩
    · exact ⟨0, none, by rw [hv, hz], fun j hj => by omega⟩
    · refine ⟨cp, _, hv, fun j hj => ⟨g, rfl, hg, ?_⟩⟩
      have hj2 : (cu.toList.take ((dirtyL C n).length * 1))[j]? = ((dirtyL C n).map encN)[j]? := by rw [h4]
      rw [List.getElem?_take_of_lt (by omega), Array.getElem?_toList, List.getElem?_map] at hj2
      rw [Go.Joins.cell_of_block hblk, hj2, List.getD_eq_getElem?_getD, List.getElem?_eq_getElem hj]
      rfl
  have HC := Lib.hid hcell
  clear hrow hnil hbl hcell HDR
  have HD1 := Lib.hid (HD.out.only HO1.out (fun f => f) (fun f => f) (fun f => f))
  have HK1 := Lib.hid (HK.out.only HO1.out (fun _ _ f => f))
  have hlt := HD.out.lt
  have hdl := dirty_len C n
  go_wp2_with fail
  go_loopw [11] (fun i wr => ∃ k : Nat, k ≤ (dirtyL C n).length ∧ i = .int .i64 (k : Int) ∧ Hid (DskAt wr p bl bm n (crN L C kl (dirtyL C n) k) C cut off) ∧ Hid (Only (Dbl p bl bm) w1 wr)) (fun i _ => (dirtyL C n).length - (intOf i).toNat)
  case atStart => exact ⟨0, Nat.zero_le _, rfl, HD1, Lib.hid (Only.refl _ _)⟩
  case round =>
    obtain ⟨k, hkl, rfl, HDk, HO⟩ := hrel
    by_cases h9 : k < (dirtyL C n).length
    · obtain ⟨g, rfl, hg, hcg⟩ := HC.out k h9
      have hck : wr.cell? ⟨g, k, none⟩ = some (.int .i64 ((dirtyL C n).getD k 0 : Nat)) := HO.out.cell' hcg (fun e => by rcases e with e | e | e <;> (have e : g = _ := e; omega))
      have hmem : (dirtyL C n).getD k 0 ∈ dirtyL C n := by rw [List.getD_eq_getElem?_getD, List.getElem?_eq_getElem h9]; exact List.getElem_mem h9
      have HM := Lib.hid ((dirty_mem (fun i => HD.out.map.bound (i := i)) _).1 hmem)
      have hin : (dirtyL C n).getD k 0 < n := HD.out.map.bound HM.out
      have HCR : Hid (crN L C kl (dirtyL C n) (k + 1) = if kl.getD k false = true then updL (crN L C kl (dirtyL C n) k) ((dirtyL C n).getD k 0) ((C ((dirtyL C n).getD k 0)).getD zeros) else crN L C kl (dirtyL C n) k) := Lib.hid rfl
      generalize (dirtyL C n).getD k 0 = i at *
      clear hmem hcg
      by_cases hA : k < len
      · obtain ⟨b, o, rfl, hcb⟩ := HK1.out.2.2.resolve_left (by omega)
        have hkb : wr.cell? ⟨b, o + k, none⟩ = some (.bool (kl.getD k false)) := HO.out.cell' (hcb k hA) (show ¬ Dbl p bl bm b from HA.out (by omega) _ rfl)
        clear hcb
        cases hkk : kl.getD k false with
        | true =>
          rw [hkk] at hkb
          have HCT : Hid (crN L C kl (dirtyL C n) (k + 1) = updL (crN L C kl (dirtyL C n) k) i ((C i).getD zeros)) := Lib.hid (by rw [HCR.out, if_pos hkk])
          clear hkk
          have HSL := Lib.hid (HDk.out.map.sec i)
          have hi64 : i ≤ 9223372036854775807 := by omega
          have hti : ((i : Int)).toNat = i := by omega
          generalize hlx : (C i).getD zeros = lx at *
          go_wp2_with fail
          refine wp_region_still_tail 12 (by kernel_rfl) (by kernel_rfl) ?_
          generalize hws3 : World.mk _ _ _ _ _ = w3
          have HO3 : Hid (Only (fun _ => False) wr w3) := Lib.hid (by subst hws3; exact (Only.refl _ wr).drew)
          clear hws3
          have HD3 := Lib.hid (HDk.out.only HO3.out (fun f => f) (fun f => f) (fun f => f))
          have c0 := HD3.out.c0
          have c1 := HD3.out.c1
          have hlk := HD3.out.map.look i hi64
          rw [hlx] at hlk
          unfold sec at hlk
          clear hlx hck hkb
          simp only [List.take_succ_cons, List.take_zero, List.drop_succ_cons, List.drop_zero]
          repeat still_step
          refine wpStill_nil ?_
          refine wpList_store_mid rfl 109 (.tmp 37) (.tmp 36) rfl bl (i * 64) (bv lx).toArray rfl rfl ?t1 ?t2 ?t3 ?t4
          case t1 => rw [sec_size HSL.out]; exact (HD3.out.row i hin).2.2
          case t2 => rw [size_info, sec_size HSL.out]
          case t3 => exact sec_one
          have HD5 : Hid (DskAt (w3.setCells bl (i * 64) (bv lx)) p bl bm n (crN L C kl (dirtyL C n) (k + 1)) C cut off) := Lib.hid (by
            rw [HCT.out]; exact HD3.out.setRow hin HSL.out)
          have ho5 : Only (fun k => k = bl) w3 (w3.setCells bl (i * 64) (bv lx)) := only_cells (S := fun k => k = bl) (b := bl) rfl _ _ _ _ (Only.refl _ w3)
          have HO5 : Hid (Only (Dbl p bl bm) w1 (w3.setCells bl (i * 64) (bv lx))) := Lib.hid ((HO.out.then HO3.out (fun _ _ f => f.elim)).then ho5 (fun _ _ e => .inr (.inl e)))
          have he : (bv lx).toArray.toList = bv lx := List.toList_toArray
          rw [he]
          clear ho5 c0 c1 hlk he
          generalize w3.setCells bl (i * 64) (bv lx) = w5 at *
          go_wp2_with fail
          go_roundw
          case rel => exact ⟨k + 1, by omega, by go_num, HD5, HO5⟩
          case measure => simp [intOf]; omega
        | false =>
          rw [hkk] at hkb
          have HCT : Hid (crN L C kl (dirtyL C n) (k + 1) = crN L C kl (dirtyL C n) k) := Lib.hid (by rw [HCR.out, if_neg (by rw [hkk]; simp)])
          clear hkk
          go_wp2_with fail
          go_roundw
          case rel => exact ⟨k + 1, by omega, by go_num, Lib.hid (by rw [HCT.out]; exact HDk.out), HO⟩
          case measure => simp [intOf]; omega
      · have HCT : Hid (crN L C kl (dirtyL C n) (k + 1) = crN L C kl (dirtyL C n) k) := Lib.hid (by
          have h0 : kl.getD k false = false := by rw [List.getD_eq_getElem?_getD, List.getElem?_eq_none (by rw [HK1.out.1]; omega)]; rfl
          rw [HCR.out, if_neg (by rw [h0]; simp)])
        go_wp2_with fail
        go_roundw
        case rel => exact ⟨k + 1, by omega, by go_num, Lib.hid (by rw [HCT.out]; exact HDk.out), HO⟩
        case measure => simp [intOf]; omega
    · obtain rfl : k = (dirtyL C n).length := by omega
      have HF : Hid (DskAt wr p bl bm n (crL L C kl n) C cut off) := HDk
      clear HDk
      have c1 := HF.out.c1
      obtain ⟨w9, hcl, hm9, ho9⟩ := HF.out.map.clear 0
      have HF2 := Lib.hid (HF.out.setMap hm9 ho9)
      have HOF : Hid (Only (Dbl p bl bm) w w9) := Lib.hid (((HO1.out.mono (fun _ _ f => f.elim)).then HO.out (fun _ _ e => e)).then ho9 (fun _ _ e => .inr (.inr e)))
      clear hm9 ho9
      have c2 := HF2.out.c2
      have f2 := HF2.out.f2
      have c3 := HF2.out.c3
      have f3 := HF2.out.f3
      have HS := Lib.hid (And.intro ((HF2.out.setCut 0 (by omega)).setOff false) ((HOF.out.setCell (p := ⟨p, 2, none⟩) (.inl (.inl rfl)) (.int .i64 0)).setCell (p := ⟨p, 3, none⟩) (.inl (.inl rfl)) (.bool false)))
      go_wp2_with fail
      go_end0
      exact ⟨rfl, HS.out⟩
end Go.Proofs.Ytcbpgplmphgcgaa.dskw
