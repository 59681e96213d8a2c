/- Several texts together: PdB. -/
import Derived.Test.YtkbaafgaaiekpaaGreatPeriodActsZ1
import Derived.Test.YtkbaafgaaiekpaaGreatPeriodActsZ30
import Derived.Test.YtkbaafgaaiekpaaGreatPeriodActsZ36
import Derived.Deep.CutRange
import Derived.Deep.CutBlock
namespace Go.Proofs.YtkbaafgaaiekpaaGreat.pdw
open Go.RowKit mem entm puw
set_option linter.unusedVariables false

set_option maxRecDepth 100000 in
theorem in_any (a : Option Addr) (len cap : Nat) (l : List Int) (n : Int) (w : World) (hr : ReadsI w a len l) : Calls Tryz.prog 86 #[.slice a len cap, .int .i64 n] w fun e w' => e = .returned (.bool (l.contains n)) ∧ w = w' := by
  have HL := Lib.hid hr.1
  have hm := hr.2.1
  unfold maxLen at hm
  have HR := Lib.hid hr
  clear hr
  go_enter Tryz.func86, Tryz.ntmps86
  go_wp2_with fail
  go_loopw [5] (fun iv wr => ∃ i : Nat, i ≤ len ∧ iv = .int .i64 (i : Int) ∧ Hid ((l.take i).contains n = false) ∧ w = wr) (fun iv _ => len - (intOf iv).toNat)
  case atStart => exact ⟨0, by omega, rfl, Lib.hid rfl, rfl⟩
  case round =>
    obtain ⟨i, hi, rfl, HC, rfl⟩ := hrel
    by_cases h8 : i < len
    · obtain ⟨b, off, rfl, hcell⟩ := HR.out.2.2.2.resolve_left (by omega)
      have cx := hcell i h8
      have hi0 : (0 : Int) ≤ (i : Int) := by omega
      have hi1 : (i : Int) < (len : Int) := by omega
      have HS := Lib.hid (fnd.contains_step' l n i (by rw [HL.out]; exact h8))
      clear hcell
      by_cases hx : l.getD i 0 = n
      · have HT : Hid (l.contains n = true) := Lib.hid (by
          have hlt : i < l.length := by rw [HL.out]; exact h8
          rw [List.contains_iff_mem, ← hx, List.getD_eq_getElem?_getD, List.getElem?_eq_getElem hlt]
          exact List.getElem_mem hlt)
        rw [hx] at cx
        clear hx HS
        go_wp2_with fail
        go_ret
        exact ⟨by rw [HT.out]; rfl, rfl⟩
      · have hb : (l.getD i 0 == n) = false := by simpa using hx
        have HC2 : Hid ((l.take (i + 1)).contains n = false) := Lib.hid (by rw [HS.out, HC.out, hb]; rfl)
        clear HS hx
        generalize l.getD i 0 = y at *
        go_wp2_with fail
        go_roundw
        case rel => exact ⟨i + 1, by omega, by go_num, HC2, by simp⟩
        case measure => (simp [intOf]; omega)
    · have hi1 : ¬ (i : Int) < (len : Int) := by omega
      obtain rfl : i = len := by omega
      have HT : Hid (l.contains n = false) := Lib.hid (by
        have h := HC.out
        rw [List.take_of_length_le (by rw [HL.out]; exact Nat.le_refl _)] at h
        exact h)
      go_wp2_with fail
      go_ret
      exact ⟨by have h9 : decide (n ∈ l) = false := (by have := HT.out; simpa using this); rw [h9]; rfl, rfl⟩
theorem same_c0 {S : Nat → Prop} {w : World} {q op : Nat} {vL vW : Value} {A : List fnd.Ac} {D : List jnw.Es} (h : dkw.DkAt A S w q vL vW op D) : dkw.DkAt A S (w.setCell ⟨q, 165, none⟩ vL) q vL vW op D :=
  ofJ h ⟨(dkw.bk_far h.bk (by omega) _).1, fun j hj => by rw [frozen_set]; exact (toJ h).fz j hj, cell_same h.c0, (cell_other (tre.off_ne (by omega))).trans h.c1, (cell_other (tre.off_ne (by omega))).trans h.c2⟩ (Only.set _ _ _ _ _ rfl)
theorem same_c1 {S : Nat → Prop} {w : World} {q op : Nat} {vL vW : Value} {A : List fnd.Ac} {D : List jnw.Es} (h : dkw.DkAt A S w q vL vW op D) : dkw.DkAt A S (w.setCell ⟨q, 166, none⟩ vW) q vL vW op D :=
  ofJ h ⟨(dkw.bk_far h.bk (by omega) _).1, fun j hj => by rw [frozen_set]; exact (toJ h).fz j hj, (cell_other (tre.off_ne (by omega))).trans h.c0, cell_same h.c1, (cell_other (tre.off_ne (by omega))).trans h.c2⟩ (Only.set _ _ _ _ _ rfl)
def RRoll (S : Nat → Prop) (w : World) (q : Nat) (A : List fnd.Ac) (op : Nat) (D : List jnw.Es) (carry : List Int) (e : Ending) (w' : World) : Prop :=
  (31 ≤ op ∧ e = .returned (.tuple #[.int .i64 0, .int .i64 10]) ∧ Only S w w' ∧ ∃ vL vW, dkw.DkAt A S w' q vL vW op D) ∨
  (op < 31 ∧ e = .returned (.tuple #[.int .i64 (fK A carry 32).2, .int .i64 0]) ∧ Only S w w' ∧ ∃ zs : List jnw.Es, zs.map dq = (pK A carry 32).map (exQ op) ∧ ∃ vL vW, dkw.DkAt (fK A carry 32).1 (fun k => S k ∨ w.heap.size ≤ k) w' q vL vW (op + 1) (D ++ zs))
theorem own_le {w : World} {base n size : Nat} {e : TypeId} {v : Value} {xs : List Value} (h : w.ownsRow base e size v n xs) : ∃ (a : Option Addr) (cap : Nat), v = .slice a n cap ∧ n ≤ cap ∧ cap ≤ maxLen ∧ ((a = none ∧ n = 0 ∧ cap = 0) ∨ ∃ g, a = some ⟨g, 0, none⟩) := by
  rcases jnw.own_form h with ⟨hv, hn⟩ | ⟨g, cap, hv, _, hc, hm⟩
  · exact ⟨none, 0, by rw [hv, hn], by omega, by unfold maxLen; omega, .inl ⟨rfl, hn, rfl⟩⟩
  · exact ⟨_, cap, hv, hc, hm, .inr ⟨g, rfl⟩⟩
theorem run_cut_same {ty : TypeId} (ht : Tryz.prog.underlying ty = some (.slice (Tryz.prog.elem ty))) {s : Nat} (hs : ∀ w, (sizeOf (Tryz.prog.elem ty)).run Tryz.prog w = .ok s w) (a : Option Addr) (n cap : Nat) (h1 : n ≤ cap) (h3 : (a = none ∧ n = 0 ∧ cap = 0) ∨ ∃ g, a = some ⟨g, 0, none⟩) (w : World) : (Instr.slice ty (.slice a n cap) none (some (.int .i64 (n : Int))) none).run Tryz.prog w = .ok (.slice a n cap) w := by
  rw [run_slice_h w ty a n cap ht .i64 (n : Int) (by omega) (by omega), hs]
  show Result.ok (sliced a 0 ((n : Int)).toNat cap s) w = _
  unfold sliced
  rw [Int.toNat_natCast, Nat.sub_zero, Nat.sub_zero, Nat.zero_mul]
  rcases h3 with ⟨rfl, rfl, rfl⟩ | ⟨g, rfl⟩
  · rfl
  · have e : (Option.map (fun x : Addr => x.add 0) (some (⟨g, 0, none⟩ : Addr))) = some ⟨g, 0, none⟩ := by
      show some ((⟨g, 0, none⟩ : Addr).add 0) = _
      rw [mem.add_none]
    rw [e, ite_self]
theorem elem_ents : Tryz.prog.underlying 45 = some (.slice (Tryz.prog.elem 45)) := by kernel_rfl
theorem elem_ints : Tryz.prog.underlying 37 = some (.slice (Tryz.prog.elem 37)) := by kernel_rfl
theorem size_ents (w : World) : (sizeOf (Tryz.prog.elem 45)).run Tryz.prog w = .ok 2 w := by
  have e : Tryz.prog.elem 45 = 75 := by kernel_rfl
  rw [e]
  exact Tryz.sizeOf75 w
theorem size_ints (w : World) : (sizeOf (Tryz.prog.elem 37)).run Tryz.prog w = .ok 1 w := by
  have e : Tryz.prog.elem 37 = 3 := by kernel_rfl
  rw [e]
  exact Tryz.sizeOf3 w
set_option maxRecDepth 100000 in
set_option maxHeartbeats 16000000 in
theorem roll_any {S : Nat → Prop} {q op : Nat} {vL vW : Value} {A : List fnd.Ac} {D : List jnw.Es} {B : Int} (a : Option Addr) (cap : Nat) (carry : List Int) (w : World) (h : dkw.DkAt A S w q vL vW op D) (hA : fnd.Bok A) (hgb : GB D op B) (hB : B + 18014398509481984 ≤ 1152921504606846976) (hn : D.length ≤ 16000) (hS : ∀ k, S k → k < w.heap.size) (hr : ReadsI w a carry.length carry) (ha : ∀ y, a = some y → ¬ S y.block) :
    Calls Tryz.prog 57 #[.pointer (some ⟨q, 0, none⟩), .slice a carry.length cap] w (RRoll S w q A op D carry) := by
  have hl := hA.len
  have hZT : (w.alloc (.cells Tryz.zeroCells44 44)).there w.heap.size 0 165 := zero_there w
  have HSZ : Hid ((fnd.av A).toArray.size = 165) := Lib.hid (by rw [List.size_toArray, fnd.av_length, hl])
  have HZT := Lib.hid hZT
  have HON := Lib.hid (all_oneCell_toArray (av_one A))
  have HRQ := Lib.hid (fnd.BkAt.range hl h.bk)
  have HW : Hid (∀ x, (w.alloc (.cells Tryz.zeroCells44 44)).setCells w.heap.size 0 (fnd.av A).toArray.toList = x → Only (fun _ => False) w x ∧ x.rangeAt w.heap.size 0 (fnd.av A)) := Lib.hid (fun x hx => by
    rw [List.toList_toArray] at hx
    rw [← hx]
    exact ⟨((Only.refl (fun _ => False) w).alloc _).then (cells_only (S := fun k => k = w.heap.size) rfl _ _ _) (fun k hk e => by have e : k = w.heap.size := e; omega), World.rangeAt_setCells_same _ _ _ _ (by rw [fnd.av_length, hl]; exact hZT)⟩)
  have HL := Lib.hid hl
  have HA := Lib.hid hA
  have HD := Lib.hid h
  have HSH := Lib.hid hS
  have HNN := Lib.hid hn
  have HGBB := Lib.hid hgb
  have HBB := Lib.hid hB
  have HSQ : Hid (S q) := Lib.hid h.sp
  have HGW : Hid (¬ S w.heap.size ∧ w.heap.size ≠ q) := Lib.hid ⟨fun e => by have := hS _ e; omega, by have := h.lt; omega⟩
  have HRD := Lib.hid hr
  have HAY := Lib.hid ha
  have hop := h.le
  have HOP := Lib.hid hop
  obtain ⟨aL, cL, rfl, hcL, hmL, hnL⟩ := own_le h.oL
  have hwl : (jnw.whens D).length = D.length := by simp [jnw.whens]
  obtain ⟨aW, cW, hvW, hcW, hmW, hnW⟩ := own_le h.oW
  rw [hwl] at hvW hcW hnW
  subst hvW
  have HCL := Lib.hid (show D.length ≤ cL ∧ cL ≤ maxLen ∧ ((aL = none ∧ D.length = 0 ∧ cL = 0) ∨ ∃ g, aL = some ⟨g, 0, none⟩) from ⟨hcL, hmL, hnL⟩)
  have HCW := Lib.hid (show D.length ≤ cW ∧ cW ≤ maxLen ∧ ((aW = none ∧ D.length = 0 ∧ cW = 0) ∨ ∃ g, aW = some ⟨g, 0, none⟩) from ⟨hcW, hmW, hnW⟩)
  clear hl hZT h hS hn hA hgb hB hr ha hwl hcL hmL hnL hcW hmW hnW
  go_enter Tryz.func57, Tryz.ntmps57
  go_upto_region 2 with (first | (refine wpList_load_mid rfl 44 (Operand.tmp 17) rfl q 0 rfl (fnd.av A) _ HRQ.out Tryz.underlying44 rfl (by rw [info_rbook, fnd.av_length, HL.out]) ?_) | (refine wpList_store_mid rfl 44 (Operand.tmp 6) (Operand.tmp 18) rfl w.heap.size 0 (fnd.av A).toArray rfl rfl (by rw [HSZ.out]; exact HZT.out) (by rw [info_rbook, HSZ.out]) HON.out ?_))
  generalize hw1 : World.setCells _ _ _ _ = w1
  obtain ⟨ho1, hrg1⟩ := HW.out w1 hw1
  generalize hgg : w.heap.size = g at *
  have HO1 := Lib.hid ho1
  have HR1 := Lib.hid hrg1
  have HGE : Hid (w.heap.size = g) := Lib.hid hgg
  have HSZ1 : Hid (w.heap.size ≤ w1.heap.size) := Lib.hid ho1.size
  have HG1 : Hid (g < w1.heap.size) := Lib.hid (World.block_lt_of_cell? w1 _ (hrg1 0 (.int .i64 (A.getD 0 fnd.zA).t) (by
    have e := fnd.av_get A 0 0 (by rw [HL.out]; omega) (by omega)
    exact e)))
  have HD1 := Lib.hid (HD.out.quiet ho1)
  have c0 := HD1.out.c0
  have c2 := HD1.out.c2
  clear hw1 ho1 hrg1 hgg HW HZT HRQ
  by_cases h31 : 31 ≤ op
  · obtain rfl : op = 31 := by have := HOP.out; omega
    have HSB : Hid (Only (fun k => k = q) w1 (w1.setCells q 0 (fnd.av A)) ∧ dkw.DkAt A S (w1.setCells q 0 (fnd.av A)) q (.slice aL D.length cL) (.slice aW D.length cW) 31 D ∧ w1.there q 0 165) := Lib.hid ⟨cells_only (S := fun k => k = q) rfl _ _ _, put_book HD1.out HL.out HL.out, BkJ_there (toJ HD1.out) HL.out⟩
    clear HSZ1 HG1 HGE hop h31
    go_wp2_with fail
    go_loopw [9, 10] (fun ev nv wr => ev = .int .i64 10 ∧ nv = .int .i64 1 ∧ w1 = wr) (fun _ _ _ => 0)
    case atStart => exact ⟨rfl, rfl, rfl⟩
    case round =>
      obtain ⟨rfl, rfl, rfl⟩ := hrel
      go_upto_region 21 with (first | (refine wpList_load_mid rfl 44 (Operand.tmp 6) rfl g 0 rfl (fnd.av A) _ HR1.out Tryz.underlying44 rfl (by rw [info_rbook, fnd.av_length, HL.out]) ?_) | (refine wpList_store_mid rfl 44 (Operand.tmp 88) (Operand.tmp 86) rfl q 0 (fnd.av A).toArray rfl rfl (by rw [HSZ.out]; exact HSB.out.2.2) (by rw [info_rbook, HSZ.out]) HON.out ?_))
      try rw [List.toList_toArray]
      have HSC := Lib.hid (And.intro HSB.out.1 HSB.out.2.1)
      clear HSB c0 c2
      generalize World.setCells w1 q 0 (fnd.av A) = w2 at *
      have HD2 := Lib.hid HSC.out.2
      have HO2 : Hid (Only S w w2) := Lib.hid ((HO1.out.mono (fun _ _ f => f.elim)).trans (HSC.out.1.mono (fun k _ e => by have e : k = q := e; rw [e]; exact HSQ.out)))
      have hsL := fun w' => run_cut_same elem_ents size_ents aL D.length cL HCL.out.1 HCL.out.2.2 w'
      have hsW := fun w' => run_cut_same elem_ints size_ints aW D.length cW HCW.out.1 HCW.out.2.2 w'
      refine wp_region_noPanic ?_
      refine late.region (fun w' => w'.cell? ⟨q, 165, none⟩ = some (.slice aL D.length cL) ∧ w'.cell? ⟨q, 166, none⟩ = some (.slice aW D.length cW)) (fun j => [].contains j) (by kernel_rfl) ((HD2.out.quiet ((Only.refl _ _).drew)).c0 |> fun x => ⟨x, (HD2.out.quiet ((Only.refl _ _).drew)).c1⟩) (fun hHeld => ?_)
      obtain ⟨z0, hz0⟩ : ∃ x, x = w2.drew := ⟨_, rfl⟩
      rw [← hz0] at hHeld ⊢
      have hot : Hid (Only (fun _ => False) w2 z0) := Lib.hid (by rw [hz0]; exact (Only.refl _ _).drew)
      have HDZ := Lib.hid (HD2.out.quiet hot.out)
      clear hz0
      refine sho.lt 0 [16, 17, 18, 19, 20, 21, 22, 23] ?_
      refine sho.lt 1 [20, 21, 22, 23] ?_
      refine sho.lt 2 [3, 4, 5, 6, 8, 16, 17, 18, 19, 20, 21, 22, 23] ?_
      refine sho.lt 3 [4, 5, 6, 8, 16, 17, 18, 19, 20, 21, 22, 23] ?_
      refine sho.lt 4 [5, 6, 8, 16, 17, 18, 19, 20, 21, 22, 23] ?_
      refine sho.lt 5 [6, 8, 16, 17, 18, 19, 20, 21, 22, 23] ?_
      refine sho.lt 6 [8, 16, 17, 18, 19, 20, 21, 22, 23] ?_
      refine sho.lt 7 [8, 16, 17, 18, 19, 20, 21, 22, 23] ?_
      refine sho.lt 8 [16, 17, 18, 19, 20, 21, 22, 23] ?_
      refine sho.lt 9 [10, 11, 12, 13, 15, 16, 17, 18, 19, 20, 21, 22, 23] ?_
      refine sho.lt 10 [11, 12, 13, 15, 16, 17, 18, 19, 20, 21, 22, 23] ?_
      refine sho.lt 11 [12, 13, 15, 16, 17, 18, 19, 20, 21, 22, 23] ?_
      refine sho.lt 12 [13, 15, 16, 17, 18, 19, 20, 21, 22, 23] ?_
      refine sho.lt 13 [15, 16, 17, 18, 19, 20, 21, 22, 23] ?_
      refine sho.lt 14 [15, 20, 21, 22, 23] ?_
      refine sho.lt 15 [20, 21, 22, 23] ?_
      refine sho.lt 16 [17, 18, 19, 20, 21, 22, 23] ?_
      refine sho.lt 17 [18, 19, 20, 21, 22, 23] ?_
      refine sho.lt 18 [19, 20, 21, 22, 23] ?_
      refine late.ready (rs := [19]) (by kernel_rfl) (by simp) ?_
      refine late.Each.cons rfl (fun K hK => ?_) late.Each.nil
      have f0 := HDZ.out.f0
      have k0 := HDZ.out.c0
      try simp only [List.getElem_toArray, List.getElem_cons_zero, List.getElem_cons_succ]
      go_simp
      obtain ⟨z1, hz1⟩ : ∃ x, x = z0.setCell ⟨q, 165, none⟩ (.slice aL D.length cL) := ⟨_, rfl⟩
      rw [← hz1]
      have HDY := Lib.hid (show dkw.DkAt A S z1 q (.slice aL D.length cL) (.slice aW D.length cW) 31 D by rw [hz1]; exact same_c0 HDZ.out)
      have HOY : Hid (Only (fun k => k = q) w2 z1) := Lib.hid ((hot.out.mono (fun _ _ f => f.elim)).trans (by rw [hz1]; exact Only.set _ _ _ _ _ rfl))
      clear hz1 f0 k0
      refine hK.out _ _ (fun _ => ⟨HDY.out.c0, HDY.out.c1⟩) (fun hHeld1 => ?_)
      replace hHeld1 := hHeld1 rfl
      clear hK K
      try simp only [List.getElem_toArray, List.getElem_cons_zero, List.getElem_cons_succ, Act.put, List.setIfInBounds_toArray, List.set_cons_zero, List.set_cons_succ]
      refine sho.lt 20 [21, 22, 23] ?_
      refine sho.lt 21 [22, 23] ?_
      refine sho.lt 22 [23] ?_
      refine late.ready (rs := [23]) (by kernel_rfl) (by simp) ?_
      refine late.Each.cons rfl (fun K hK => ?_) late.Each.nil
      have f1 := HDY.out.f1
      have k1 := HDY.out.c1
      try simp only [List.getElem_toArray, List.getElem_cons_zero, List.getElem_cons_succ]
      go_simp
      obtain ⟨z2, hz2⟩ : ∃ x, x = z1.setCell ⟨q, 166, none⟩ (.slice aW D.length cW) := ⟨_, rfl⟩
      rw [← hz2]
      have HDX := Lib.hid (show dkw.DkAt A S z2 q (.slice aL D.length cL) (.slice aW D.length cW) 31 D by rw [hz2]; exact same_c1 HDY.out)
      have HOX : Hid (Only (fun k => k = q) w2 z2) := Lib.hid (HOY.out.trans (by rw [hz2]; exact Only.set _ _ _ _ _ rfl))
      clear hz2 f1 k1
      refine hK.out _ _ (fun _ => ⟨HDX.out.c0, HDX.out.c1⟩) (fun hHeld2 => ?_)
      replace hHeld2 := hHeld2 rfl
      clear hK K
      try simp only [List.getElem_toArray, List.getElem_cons_zero, List.getElem_cons_succ, Act.put, List.setIfInBounds_toArray, List.set_cons_zero, List.set_cons_succ]
      refine late.done (by kernel_rfl) ?_ _
      refine NoPanic.normal ?_
      have HEND : Hid (RRoll S w q A 31 D carry (.returned (.tuple #[.int .i64 0, .int .i64 10])) z2) := Lib.hid (.inl ⟨by omega, rfl, HO2.out.trans (HOX.out.mono (fun k _ e => by have e : k = q := e; rw [e]; exact HSQ.out)), _, _, HDX.out⟩)
      clear hHeld HDX HOX HDY HOY HDZ hot hsL hsW
      go_wp2_with fail
      go_ret2
      exact HEND.out
  · have HO31 : Hid (op < 31) := Lib.hid (by omega)
    have hb31 : ¬ (32 : Int) ≤ (op : Int) + 1 := by omega
    have hw31 : IntKind.i64.wrap ((op : Int) + 1) = (op : Int) + 1 := by rw [IntKind.wrap_i64]; omega
    have HFZ := Lib.hid (fK_zero HA.out carry)
    have HSET0 : Hid (dkw.DkAt A (fun x => (S x ∨ w1.heap.size ≤ x) ∧ x < w1.heap.size) w1 q (.slice aL D.length cL) (.slice aW D.length cW) op D) := Lib.hid (HD1.out.monoS (fun k hk s => ⟨.inl s, hk⟩))
    clear h31 hop
    go_upto_region 7 with fail
    clear c0 c2 hb31 hw31
    go_wp2_with fail
    go_loopw [8, 9, 10] (fun av ev nv wr => ∃ (k : Nat) (s : Int) (zs : List jnw.Es), k ≤ 32 ∧ nv = .int .i64 ((k : Int) + 1) ∧ ev = .int .i64 0 ∧ av = .int .i64 s ∧ Hid (s = (fK A carry k).2) ∧ (0 ≤ s ∧ s ≤ 9007199254740992 * (k : Int)) ∧ Hid (zs.map dq = (pK A carry k).map (exQ op)) ∧ Hid (∃ vL vW, dkw.DkAt (fK A carry k).1 (fun x => (S x ∨ w1.heap.size ≤ x) ∧ x < wr.heap.size) wr q vL vW op (D ++ zs)) ∧ Hid (Only S w1 wr)) (fun _ _ nv _ => 33 - (intOf nv).toNat)
    case atStart => exact ⟨0, 0, [], by omega, rfl, rfl, rfl, Lib.hid (by rw [HFZ.out.1]), ⟨by omega, by omega⟩, Lib.hid (by rw [HFZ.out.2]; rfl), Lib.hid (by rw [HFZ.out.1, List.append_nil]; exact ⟨_, _, HSET0.out⟩), Lib.hid (Only.refl _ _)⟩
    case round =>
      clear HSET0
      obtain ⟨k, s, zs, hk, rfl, rfl, rfl, HS, hsb, HZS, HDK, HX⟩ := hrel
      rename World => wr
      by_cases hk8 : k < 32
      · have hk33 : (k : Int) + 1 ≤ 32 := by omega
        obtain ⟨nk, hnk⟩ : ∃ x : Int, x = ((k + 1 : Nat) : Int) := ⟨_, rfl⟩
        have hnk2 : (k : Int) + 1 = nk := by omega
        have HNK := Lib.hid hnk
        have HST := Lib.hid (fK_step HA.out carry hk8 nk hnk)
        have HBK := Lib.hid (fK_bok HA.out carry k)
        have HGI := Lib.hid (rollN_in HBK.out nk (carry.contains nk))
        rw [hnk2] at hk33 ⊢
        have hnk1 : 1 ≤ nk := by omega
        have hnw : IntKind.i64.wrap (nk + 1) = nk + 1 := by rw [IntKind.wrap_i64]; omega
        have HNX : Hid (nk + 1 = ((k + 1 : Nat) : Int) + 1) := Lib.hid (by omega)
        clear hnk hnk2
        obtain ⟨vL2, vW2, hdk⟩ := HDK.out
        have HDK2 := Lib.hid hdk
        have HRE : Hid (fnd.rollE nk = 0) := Lib.hid (by unfold fnd.rollE; rw [if_pos ⟨hnk1, by omega⟩])
        have HRR := Lib.hid (fun w' (ho : Only (fun _ => False) wr w') => dbk.rroll_any _ q (fK A carry k).1 nk (carry.contains nk) w' (toJ (hdk.quiet ho)) HBK.out)
        have HRD2 := Lib.hid (fun w' (ho : Only (fun _ => False) wr w') => in_any a carry.length cap carry nk w' (((HRD.out.only HO1.out (fun _ _ f => f)).only HX.out (fun y hy e => HAY.out y hy e)).only ho (fun _ _ f => f)))
        rw [HRE.out] at HRR
        obtain ⟨gn, hgn⟩ : ∃ x : Int, x = fnd.rollN (fK A carry k).1 nk (carry.contains nk) := ⟨_, rfl⟩
        rw [← hgn] at HST HGI HRR
        obtain ⟨AK, hAK⟩ : ∃ x, x = fnd.rollA (fK A carry k).1 nk (carry.contains nk) := ⟨_, rfl⟩
        rw [← hAK] at HST HRR
        obtain ⟨cb, hcb⟩ : ∃ x, x = carry.contains nk := ⟨_, rfl⟩
        rw [← hcb] at HRR HRD2
        clear hdk HDK hgn hAK hcb
        have hgb := HGI.out
        have hsw : IntKind.i64.wrap (s + gn) = s + gn := by rw [IntKind.wrap_i64]; omega
        go_upto_region 10 with fail
        refine wp_region_noPanic ?_
        refine wp_region_held_drew (S := (fun w' => w'.cell? ⟨q, 167, none⟩ = some (.int .i64 (op : Int)))) (by kernel_rfl) ((HDK2.out.quiet ((Only.refl _ _).drew)).c2) (fun hHeld => ?_)
        obtain ⟨z0, hz0⟩ : ∃ x, x = wr.drew := ⟨_, rfl⟩
        rw [← hz0] at hHeld ⊢
        have hot : Hid (Only (fun _ => False) wr z0) := Lib.hid (by rw [hz0]; exact (Only.refl _ _).drew)
        clear hz0
        refine sho.tk 0 ?_
        refine sho.tk 1 ?_
        refine sho.tk 2 ?_
        refine sho.tk 3 ?_
        refine sho.tk 4 ?_
        refine sho.tk 5 ?_
        refine wpAnyH_ready (rs := [6]) (by kernel_rfl) (by simp) ?_
        refine AllReadyH.cons rfl (fun K hK => ?_) AllReadyH.nil
        try simp only [List.getElem_toArray, List.getElem_cons_zero, List.getElem_cons_succ]
        go_simp
        go_at_call 86
        with_reducible refine (HRD2.out _ hot.out).mono ?_
        rintro _ _ ⟨rfl, rfl⟩
        try dsimp only
        refine hK.out _ _ ((HDK2.out.quiet hot.out).c2) (fun hHeld1 => ?_)
        clear hK K
        try simp only [List.getElem_toArray, List.getElem_cons_zero, List.getElem_cons_succ, Act.put, List.setIfInBounds_toArray, List.set_cons_zero, List.set_cons_succ]
        refine wpAnyH_ready (rs := [7]) (by kernel_rfl) (by simp) ?_
        refine AllReadyH.cons rfl (fun K hK => ?_) AllReadyH.nil
        try simp only [List.getElem_toArray, List.getElem_cons_zero, List.getElem_cons_succ]
        go_simp
        go_at_call 85
        with_reducible refine (HRR.out _ hot.out).mono ?_
        rintro _ z1 ⟨rfl, hbz, hoz⟩
        have HDZ := Lib.hid (ofJ (HDK2.out.quiet hot.out) hbz hoz)
        have HOZ : Hid (Only (fun x => x = q) wr z1) := Lib.hid ((hot.out.mono (fun _ _ f => f.elim)).trans hoz)
        clear hbz hoz
        try dsimp only
        refine hK.out _ _ (HDZ.out.c2) (fun hHeld2 => ?_)
        clear hK K
        try simp only [List.getElem_toArray, List.getElem_cons_zero, List.getElem_cons_succ, Act.put, List.setIfInBounds_toArray, List.set_cons_zero, List.set_cons_succ]
        refine sho.tk 8 ?_
        refine sho.tk 9 ?_
        refine sho.tk 10 ?_
        refine sho.tk 11 ?_
        refine sho.tk 12 ?_
        refine wpAnyH_done (by kernel_rfl) ?_ _
        refine NoPanic.normal ?_
        clear hHeld hot HRR HRD2
        have HXZ : Hid (Only S w1 z1) := Lib.hid (HX.out.trans (HOZ.out.mono (fun x _ e => by have e : x = q := e; rw [e]; exact HSQ.out)))
        have HZW : Hid (wr.heap.size ≤ z1.heap.size) := Lib.hid HOZ.out.size
        by_cases hg0 : 0 < gn
        · have HGD : Hid (puw.Good 5 gn 0 [nk]) := Lib.hid ⟨by omega, ⟨by omega, hgb.2⟩, by simp, by simp, fun m hm => by rw [List.mem_singleton] at hm; rw [hm]; exact ⟨hnk1, hk33⟩, fun _ => rfl, fun h => by omega⟩
          have HGR := Lib.hid (GB.rows HA.out carry k HGBB.out HOP.out (by have := HBB.out; omega) HZS.out)
          have HER : Hid (∀ ls, chk 5 ls = 0 → jnw.dErr (D ++ zs) 5 ls = 0) := Lib.hid (fun ls h3 => HGR.out.err HOP.out (by have := HBB.out; omega) h3)
          have HMG : Hid (∀ er, er ≠ 0 → ¬ RNo (D ++ zs) 5 gn 0 [nk] er) := Lib.hid (fun er hne hno => by
            rcases hno with e | ⟨_, ls, h1, h2, ⟨h3, _⟩ | ⟨h3, e⟩⟩
            · exact hne (e.trans HGD.out.mk0)
            · exact h3 (HGD.out.chk0 h1 h2)
            · exact hne (e.trans (HER.out ls h3)))
          have HIN : Hid (entw.InI nk) := Lib.hid (by unfold entw.InI; omega)
          obtain ⟨w3, hw3⟩ : ∃ x, x = z1.alloc (.cells #[.int .i64 nk] 3) := ⟨_, rfl⟩
          obtain ⟨g3, hg3⟩ : ∃ x, x = z1.heap.size := ⟨_, rfl⟩
          have ho3 : Only (fun _ => False) z1 w3 := by rw [hw3]; exact (Only.refl _ _).alloc _
          have HMK := Lib.hid (rmk_any (D ++ zs) 5 gn 0 (by unfold entw.InI; omega) (some ⟨g3, 0, none⟩) 1 1 [nk] w3 (read1 z1 _ nk HIN.out hw3 hg3))
          have HO3 := Lib.hid ho3
          have HLZ : Hid ((D ++ zs).length < 16384) := Lib.hid (by
            have h1 := congrArg List.length HZS.out
            rw [List.length_map, List.length_map] at h1
            have h2 : (pK A carry k).length ≤ 33 := Nat.le_trans (expN_len A carry _) (Nat.le_trans (fnd.nodU_len A _) (by omega))
            rw [List.length_append]
            have := HNN.out
            omega)
          clear ho3 HDK2
          go_wp2_with fail
          simp only [← hw3, ← hg3]
          clear hw3 hg3
          refine HMK.out.mono ?_
          rintro _ w4 ⟨ho4, ⟨er, hne, rfl, hno⟩ | ⟨a4, c4, ls, hmz, hpm, hst, hck, ha4, hrl, rfl⟩⟩
          · exact absurd hno (HMG.out er hne)
          · have hls : ls = exL nk gn := by
              rw [raw5] at hpm
              exact perm_two hpm hst (by unfold ltA; simp)
            subst hls
            have hl2 : (exL nk gn).length = 2 := rfl
            have HO4 := Lib.hid (HO3.out.trans ho4)
            have HRL := Lib.hid hrl
            have HA4 := Lib.hid ha4
            have HCK := Lib.hid hck
            rw [hl2] at HRL ⊢
            obtain ⟨w6, hw6⟩ : ∃ x, x = w4.alloc (.cells #[.int .i64 5, .slice a4 2 c4] 75) := ⟨_, rfl⟩
            obtain ⟨g5, hg5⟩ : ∃ x, x = w4.heap.size := ⟨_, rfl⟩
            have ho6 : Only (fun _ => False) w4 w6 := by rw [hw6]; exact (Only.refl _ w4).alloc _
            have hB6 := jnw.Box2.new w4 (.int .i64 5) (.slice a4 2 c4) 75
            rw [← hw6, ← hg5] at hB6
            have HB6 := Lib.hid hB6
            clear ho4 hmz hpm hst hck ha4 hrl
            go_upto_region 14 with fail
            simp only [← hw6, ← hg5]
            have HZ7 : Hid (Only (fun _ => False) z1 w6) := Lib.hid (HO4.out.trans ho6)
            have HG5 : Hid (z1.heap.size ≤ g5 ∧ w4.heap.size = g5) := Lib.hid ⟨by have := HO4.out.size; omega, hg5.symm⟩
            have HRL6 : Hid (entw.ReadsL w6 a4 2 (exL nk gn)) := Lib.hid (HRL.out.only ho6 (fun _ _ f => f))
            have HBL : Hid (∀ y, a4 = some y → z1.heap.size ≤ y.block ∧ y.block ≠ g5) := Lib.hid (fun y hy => by
              have h1 := HA4.out y hy
              have h2 := jnw.readsL_block HRL.out hy (by omega)
              have h3 := HO3.out.size
              have h4 := HG5.out.2
              omega)
            have HW16 : Hid (w1.heap.size ≤ z1.heap.size) := Lib.hid HXZ.out.size
            have HD6 := Lib.hid ((HDZ.out.quiet HZ7.out).monoS (T := fun x => ((S x ∨ w1.heap.size ≤ x) ∧ x ≠ g5) ∧ x < w6.heap.size) (fun x hx s => ⟨⟨s.1, by have := HG5.out.1; have := HZW.out; omega⟩, hx⟩))
            have HPO := Lib.hid (fun w' (ho : Only (fun _ => False) w6 w') => dkw.rpost_any q op vL2 vW2 (D ++ zs) 5 a4 2 c4 (exL nk gn) w' (HD6.out.quiet ho) (HRL6.out.only ho (fun _ _ f => f)) HLZ.out (fun y hy => by
              have h1 := HBL.out y hy
              have h2 := HDZ.out.lt
              have h3 := HW16.out
              have h4 := jnw.readsL_block HRL6.out hy (by omega)
              refine ⟨⟨⟨.inr (by omega), h1.2⟩, h4⟩, by omega, fun e => ?_, fun e => ?_⟩
              · have := jnw.own_lt HDZ.out.oL e; omega
              · have := jnw.own_lt HDZ.out.oW e; omega))
            have HS15 : Hid (∀ w', Only (fun x => x < z1.heap.size) w6 w' → w'.cell? ⟨g5, 0, none⟩ = some (.int .i64 5) ∧ w'.cell? ⟨g5, 1, none⟩ = some (.slice a4 2 c4)) := Lib.hid (fun w' ho => by
              obtain ⟨k0, k1, -⟩ := (HB6.out.only ho (fun e => by have e : g5 < z1.heap.size := e; have := HG5.out.1; omega)).cells
              exact ⟨k0, k1⟩)
            have HOWN : Hid (∀ x, (x = q ∨ vL2.ownBlock = some x ∨ vW2.ownBlock = some x) → x < z1.heap.size ∧ S x ∨ x < z1.heap.size ∧ w1.heap.size ≤ x) := Lib.hid (fun x e => by
              have hs : (S x ∨ w1.heap.size ≤ x) ∧ x < wr.heap.size := by
                rcases e with e | e | e
                · rw [e]; exact HDZ.out.sp
                · exact (HDZ.out.sL _ e).1
                · exact (HDZ.out.sW _ e).1
              have := HZW.out
              rcases hs.1 with h | h
              · exact .inl ⟨by omega, h⟩
              · exact .inr ⟨by omega, h⟩)
            clear hg5 hw6 hB6 ho6
            go_upto_region 15 with fail
            refine wp_region_noPanic ?_
            refine wp_region_held_drew (S := (fun w' => w'.cell? ⟨g5, 0, none⟩ = some (.int .i64 5) ∧ w'.cell? ⟨g5, 1, none⟩ = some (.slice a4 2 c4))) (by kernel_rfl) (HS15.out _ ((Only.refl _ _).drew)) (fun hHeld => ?_)
            obtain ⟨y0, hy0⟩ : ∃ x, x = w6.drew := ⟨_, rfl⟩
            rw [← hy0] at hHeld ⊢
            have hot : Hid (Only (fun _ => False) w6 y0) := Lib.hid (by rw [hy0]; exact (Only.refl _ _).drew)
            clear hy0
            refine sho.tk 0 ?_
            refine sho.tk 1 ?_
            refine sho.tk 2 ?_
            refine sho.tk 3 ?_
            refine wpAnyH_ready (rs := [4]) (by kernel_rfl) (by simp) ?_
            refine AllReadyH.cons rfl (fun K hK => ?_) AllReadyH.nil
            try simp only [List.getElem_toArray, List.getElem_cons_zero, List.getElem_cons_succ]
            go_simp
            go_at_call 87
            with_reducible refine (HPO.out _ hot.out).mono ?_
            rintro _ y1 (⟨hne, -, -⟩ | ⟨-, -, rfl, ⟨vL3, vW3, hd3⟩, hoy⟩)
            · exact absurd (HER.out _ HCK.out) hne
            have hoz9 : Only (fun x => x < z1.heap.size) w6 y1 := (hot.out.mono (fun _ _ f => f.elim)).trans (hoy.mono (fun x _ e => by
              rcases HOWN.out x e with h | h
              · exact h.1
              · exact h.1))
            have HOY : Hid (Only (fun x => x = q ∨ vL2.ownBlock = some x ∨ vW2.ownBlock = some x) w6 y1) := Lib.hid ((hot.out.mono (fun _ _ f => f.elim)).trans hoy)
            have HD3 := Lib.hid hd3
            have HY0 : Hid (w6.heap.size ≤ y0.heap.size ∧ y0.heap.size ≤ y1.heap.size) := Lib.hid ⟨hot.out.size, hoy.size⟩
            clear hd3 hoy
            try dsimp only
            refine hK.out _ _ (HS15.out _ hoz9) (fun hHeld1 => ?_)
            clear hK K
            try simp only [List.getElem_toArray, List.getElem_cons_zero, List.getElem_cons_succ, Act.put, List.setIfInBounds_toArray, List.set_cons_zero, List.set_cons_succ]
            refine sho.tk 5 ?_
            refine sho.tk 6 ?_
            refine sho.tk 7 ?_
            refine sho.tk 8 ?_
            refine wpAnyH_done (by kernel_rfl) ?_ _
            refine NoPanic.normal ?_
            clear hHeld HS15 HPO hot hoz9
            have HZ2 : Hid ((zs ++ [(⟨5, a4, 2, c4, op, exL nk gn⟩ : jnw.Es)]).map dq = (pK A carry (k + 1)).map (exQ op)) := Lib.hid (by rw [HST.out.2.2, if_pos hg0, List.map_append, List.map_append, HZS.out]; rfl)
            have HS2 : Hid (s + gn = (fK A carry (k + 1)).2) := Lib.hid (by rw [HST.out.2.1, HS.out])
            have HX2 : Hid (Only S w1 y1) := Lib.hid (HXZ.out.then ((HZ7.out.mono (fun _ _ f => f.elim : ∀ x, x < z1.heap.size → False → (x = q ∨ vL2.ownBlock = some x ∨ vW2.ownBlock = some x))).trans HOY.out) (fun x hx e => by
              rcases HOWN.out x e with h | h
              · exact h.2
              · omega))
            have HD2 : Hid (∃ vL vW, dkw.DkAt (fK A carry (k + 1)).1 (fun x => (S x ∨ w1.heap.size ≤ x) ∧ x < y1.heap.size) y1 q vL vW op (D ++ (zs ++ [(⟨5, a4, 2, c4, op, exL nk gn⟩ : jnw.Es)]))) := Lib.hid ⟨_, _, by
              rw [HST.out.1, ← List.append_assoc]
              exact HD3.out.monoS (fun x hx s => ⟨by
                rcases s with s | s
                · exact s.1.1
                · have h1 := HY0.out.1; have h2 := HZ7.out.size; have h3 := HW16.out; exact .inr (by omega), hx⟩)⟩
            clear HZS HS HST HDZ HOZ HD3 HOY HD6 HGR HER HMG HMK HGD HCK HRL HRL6 HB6 HOWN
            go_wp2_with fail
            go_roundw
            case rel => exact ⟨k + 1, s + gn, _, by omega, by rw [HNX.out], rfl, rfl, HS2, ⟨by omega, by omega⟩, HZ2, HD2, HX2⟩
            case measure => (simp [intOf]; omega)
        · have HZ2 : Hid (zs.map dq = (pK A carry (k + 1)).map (exQ op)) := Lib.hid (by rw [HST.out.2.2, if_neg hg0, List.append_nil]; exact HZS.out)
          have HS2 : Hid (s + gn = (fK A carry (k + 1)).2) := Lib.hid (by rw [HST.out.2.1, HS.out])
          have HD2 : Hid (∃ vL vW, dkw.DkAt (fK A carry (k + 1)).1 (fun x => (S x ∨ w1.heap.size ≤ x) ∧ x < z1.heap.size) z1 q vL vW op (D ++ zs)) := Lib.hid ⟨_, _, by rw [HST.out.1]; exact HDZ.out.monoS (fun x hx s => ⟨s.1, hx⟩)⟩
          clear HZS HS HST HDK2 HDZ HOZ
          go_wp2_with fail
          go_roundw
          case rel => exact ⟨k + 1, s + gn, zs, by omega, by rw [HNX.out], rfl, rfl, HS2, ⟨by omega, by omega⟩, HZ2, HD2, HXZ⟩
          case measure => (simp [intOf]; omega)
      · obtain rfl : k = 32 := by omega
        have hk33 : ¬ ((32 : Nat) : Int) + 1 ≤ 32 := by omega
        obtain ⟨vL2, vW2, hdk⟩ := HDK.out
        have HDK2 := Lib.hid hdk
        have HCL2 := Lib.hid (dkw.rclose_yes q op vL2 vW2 (D ++ zs) wr hdk HO31.out)
        clear hdk HDK hsb hk hk8
        go_wp2_with fail
        refine HCL2.out.mono ?_
        rintro _ w5 ⟨rfl, hd5, ho5⟩
        have HEND : Hid (RRoll S w q A op D carry (.returned (.tuple #[.int .i64 s, .int .i64 0])) w5) := Lib.hid (.inr ⟨HO31.out, by rw [HS.out], (HO1.out.mono (fun _ _ f => f.elim)).trans (HX.out.trans (ho5.mono (fun x _ e => by have e : x = q := e; rw [e]; exact HSQ.out))), zs, HZS.out, _, _, hd5.mono (fun x s => s.1.imp id (fun s => by have := HSZ1.out; omega))⟩)
        clear hd5 ho5 HCL2
        go_wp2_with fail
        go_ret2
        exact HEND.out
end Go.Proofs.YtkbaafgaaiekpaaGreat.pdw
