/- Several texts together: PuD, PuF, PuG, PuH, PuI. -/
import Derived.Test.YtkbaafgaaiekpaaGreatPeriodActsZ1
import Derived.Test.YtkbaafgaaiekpaaGreatPeriodActsZ2
import Derived.Test.YtkbaafgaaiekpaaGreatPeriodActsZ20
import Derived.Test.YtkbaafgaaiekpaaGreatPeriodActsZ21
import Derived.Test.YtkbaafgaaiekpaaGreatPeriodActsZ22
import Derived.Test.YtkbaafgaaiekpaaGreatPeriodActsZ23
import Derived.Test.YtkbaafgaaiekpaaGreatPeriodActsZ24
import Derived.Deep.CutRange
import Derived.Deep.CutBlock
namespace Go.Proofs.YtkbaafgaaiekpaaGreat.puw
open Go.RowKit mem
set_option linter.unusedVariables false

theorem MvR.frm {S : Nat → Prop} {w w1 w' : World} {p pb pj : Nat} {A A' : List fnd.Ac} {op : Nat} {C : AcC → Option (List Int)} {L : List jnw.Ps} {kind m gr E : Int} {path : List Int} {e : Ending} (ho : Only (fun _ => False) w w1) (h : MvR S w1 p pb pj A op C L kind m gr path A' E e w') : MvR S w p pb pj A op C L kind m gr path A' E e w' := by
  have hs := ho.size
  rcases h with ⟨er, h1, h2, h3, h4, h5⟩ | ⟨h1, h2, ls, x, h3, h4, h5, h6, h7, h8⟩
  · exact .inl ⟨er, h1, h2, h3, (ho.mono (fun _ _ f => f.elim)).trans h4, h5⟩
  · exact .inr ⟨h1, h2, ls, x, h3, h4, h5, h6, h7.mono (fun q _ hq => hq.imp (fun y => y) (fun y => by omega)), (ho.mono (fun _ _ f => f.elim)).trans h8⟩
theorem ch_top {A : List fnd.Ac} (hA : A.length = 33) (n x : Int) (h : fnd.topE A n x = 0) : ChOk [n] A (fnd.topA A n x) := by
  have hn : fnd.NodeOk n := by
    unfold fnd.topE at h
    by_cases e : fnd.NodeOk n ∧ fnd.AmtOk x
    · exact e.1
    · rw [if_neg e] at h; exact absurd h (by decide)
  obtain ⟨h1, h2⟩ := hn
  refine ⟨by simp, fun m hm => by rw [List.mem_singleton] at hm; rw [hm]; exact ⟨h1, h2⟩, fun k hk => ?_⟩
  unfold fnd.topA
  rw [if_pos h, fnd.getA_set _ _ _ _ (by omega), if_neg (fun e => hk n (by simp) e.symm)]
theorem path_nodes {l : List Int} (h : fnd.PathOk l) : l.length ≤ 3 ∧ ∀ n ∈ l, fnd.NodeOk n := by
  refine ⟨h.1.2, fun n hn => ?_⟩
  obtain ⟨i, hi, rfl⟩ := List.mem_iff_getElem.1 hn
  have := (h.2 i hi).1
  rwa [List.getD_eq_getElem?_getD, List.getElem?_eq_getElem hi] at this
theorem ch_sh {A : List fnd.Ac} (l : List Int) (x dh du : Int) (h : fnd.shE A l x dh du = 0) : ChOk l A (fnd.shA A l x dh du) := by
  have hp : fnd.PathOk l := by
    unfold fnd.shE at h
    by_cases e : fnd.PathOk l ∧ fnd.AmtOk x
    · exact e.1
    · rw [if_neg e] at h; exact absurd h (by decide)
  obtain ⟨h1, h2⟩ := path_nodes hp
  refine ⟨h1, h2, fun k hk => ?_⟩
  unfold fnd.shA
  rw [if_pos h]
  exact fnd.shT_other k l A dh du hk
theorem ch_hold {A : List fnd.Ac} (l ls : List Int) (x : Int) (h : fnd.holdE A l ls x = 0) : ChOk l A (fnd.holdA A l ls x) := by
  have hp : fnd.PathOk l := by
    unfold fnd.holdE at h
    by_cases e : (fnd.PathOk l ∧ ls.length = l.length ∧ fnd.LOk ls ls.length) ∧ fnd.AmtOk x
    · exact e.1.1
    · rw [if_neg e] at h; exact absurd h (by decide)
  obtain ⟨h1, h2⟩ := path_nodes hp
  refine ⟨h1, h2, fun k hk => ?_⟩
  unfold fnd.holdA
  rw [if_pos h]
  exact fnd.shT_other k l A x 0 hk
theorem gr0_in : entw.InI 0 := by unfold entw.InI; omega
set_option maxRecDepth 100000 in
set_option maxHeartbeats 4000000 in
theorem cptop_any (p pb : Nat) (A : List fnd.Ac) (n x : Int) (x0 x1 x2 : Nat) (z : World) (h0 : z.cell? ⟨p, 0, none⟩ = some (.pointer (some ⟨pb, 0, none⟩))) (h1 : z.cell? ⟨x0, 0, none⟩ = some (.pointer (some ⟨p, 0, none⟩))) (h2 : z.cell? ⟨x1, 0, none⟩ = some (.int .i64 n)) (h3 : z.cell? ⟨x2, 0, none⟩ = some (.int .i64 x)) (hne : p ≠ pb) (hx0 : x0 ≠ pb) (hx1 : x1 ≠ pb) (hx2 : x2 ≠ pb) (hbk : fnd.BkAt z pb A) (hok : fnd.Bok A)  :
    Calls Tryz.prog 38 #[.pointer (some ⟨x0, 0, none⟩), .pointer (some ⟨x1, 0, none⟩), .pointer (some ⟨x2, 0, none⟩)] z (fnd.FDid pb (fnd.topA A n x) (fnd.topE A n x) z) := by
  have HCB : Hid (∀ w', Only (fun _ => False) z w' → Calls Tryz.prog 39 #[.pointer (some ⟨pb, 0, none⟩), .int .i64 n, .int .i64 x] w' (fnd.FDid pb (fnd.topA A n x) (fnd.topE A n x) w')) := Lib.hid (fun w' ho => fnd.topup_any pb A n x w' (hbk.only ho (fun f => f)) (hok))
  have HSL : Hid (∀ w', Only (fun _ => False) z w' → w'.cell? ⟨p, 0, none⟩ = some (.pointer (some ⟨pb, 0, none⟩)) ∧ w'.cell? ⟨x0, 0, none⟩ = some (.pointer (some ⟨p, 0, none⟩)) ∧ w'.cell? ⟨x1, 0, none⟩ = some (.int .i64 n) ∧ w'.cell? ⟨x2, 0, none⟩ = some (.int .i64 x)) := Lib.hid (fun w' ho => ⟨ho.cell' h0 (fun f => f), ho.cell' h1 (fun f => f), ho.cell' h2 (fun f => f), ho.cell' h3 (fun f => f)⟩)
  have HSF : Hid (∀ w', Only (fun _ => False) z w' → ∀ w2, Only (fun q => q = pb) w' w2 → w2.cell? ⟨p, 0, none⟩ = some (.pointer (some ⟨pb, 0, none⟩)) ∧ w2.cell? ⟨x0, 0, none⟩ = some (.pointer (some ⟨p, 0, none⟩)) ∧ w2.cell? ⟨x1, 0, none⟩ = some (.int .i64 n) ∧ w2.cell? ⟨x2, 0, none⟩ = some (.int .i64 x)) := Lib.hid (fun w' ho w2 ho2 => ⟨ho2.cell' (ho.cell' h0 (fun f => f)) hne, ho2.cell' (ho.cell' h1 (fun f => f)) hx0, ho2.cell' (ho.cell' h2 (fun f => f)) hx1, ho2.cell' (ho.cell' h3 (fun f => f)) hx2⟩)
  clear h0 h1 h2 h3 hbk hok
  go_enter Tryz.func38, Tryz.ntmps38
  go_upto_region 1 with fail
  refine wp_region_noPanic ?_
  refine late.region (fun w' => w'.cell? ⟨p, 0, none⟩ = some (.pointer (some ⟨pb, 0, none⟩)) ∧ w'.cell? ⟨x0, 0, none⟩ = some (.pointer (some ⟨p, 0, none⟩)) ∧ w'.cell? ⟨x1, 0, none⟩ = some (.int .i64 n) ∧ w'.cell? ⟨x2, 0, none⟩ = some (.int .i64 x)) (fun j => [].contains j) (by kernel_rfl) (HSL.out _ (Only.refl _ _).drew) (fun hHeld => ?_)
  obtain ⟨z0, hz0'⟩ : ∃ x, x = z.drew := ⟨_, rfl⟩
  rw [← hz0'] at hHeld ⊢
  have hot : Hid (Only (fun _ => False) z z0) := Lib.hid (by rw [hz0']; exact (Only.refl _ _).drew)
  clear hz0'
  refine sho.lt 0 [1, 2, 3, 6, 7] ?_
  refine sho.lt 1 [2, 3, 6, 7] ?_
  refine sho.lt 2 [3, 6, 7] ?_
  refine sho.lt 3 [6, 7] ?_
  refine sho.lt 4 [6, 7] ?_
  refine sho.lt 5 [6, 7] ?_
  refine late.ready (rs := [6]) (by kernel_rfl) (by simp) ?_
  refine late.Each.cons rfl (fun K hK => ?_) late.Each.nil
  try simp only [List.getElem_toArray, List.getElem_cons_zero, List.getElem_cons_succ]
  go_simp
  go_at_call 39
  with_reducible refine (HCB.out _ hot.out).mono ?_
  rintro _ z1 ⟨rfl, hb, ho⟩
  have HEND : Hid (fnd.FDid pb (fnd.topA A n x) (fnd.topE A n x) z (.returned (.int .i64 (fnd.topE A n x))) z1) := Lib.hid ⟨rfl, hb, (hot.out.mono (fun _ _ f => f.elim)).trans ho⟩
  have HSZ := Lib.hid (HSF.out _ hot.out _ ho)
  clear hb ho hot HCB
  try dsimp only
  refine hK.out _ _ (fun _ => HSZ.out) (fun hHeld1 => ?_)
  replace hHeld1 := hHeld1 rfl
  clear hK K
  try simp only [List.getElem_toArray, List.getElem_cons_zero, List.getElem_cons_succ, Act.put, List.setIfInBounds_toArray, List.set_cons_zero, List.set_cons_succ]
  refine sho.lt 7 [] ?_
  refine late.done (by kernel_rfl) ?_ _
  refine NoPanic.normal ?_
  clear hHeld HSZ HSF HSL
  go_wp2_with fail
  go_ret
  exact HEND.out
set_option maxRecDepth 100000 in
set_option maxHeartbeats 4000000 in
theorem ptop_any {S : Nat → Prop} {p pb pj : Nat} {A : List fnd.Ac} {op : Nat} {C : AcC → Option (List Int)} {L : List jnw.Ps} (n x : Int) (w : World) (h : Pu S w p pb pj A op C L) (hS : ∀ q, S q → q < w.heap.size) (hL : L.length < 16384) (hn : entw.InI n) :
    Calls Tryz.prog 10 #[.pointer (some ⟨p, 0, none⟩), .int .i64 n, .int .i64 x] w (MvR S w p pb pj A op C L 1 x 0 [n] (fnd.topA A n x) (fnd.topE A n x)) := by
  obtain ⟨w1, hw1⟩ : ∃ y, y = (((w.alloc (.cells #[.pointer (some ⟨p, 0, none⟩)] 25)).alloc (.cells #[.int .i64 n] 3)).alloc (.cells #[.int .i64 x] 3)) := ⟨_, rfl⟩
  obtain ⟨x0, hx0⟩ : ∃ y, y = w.heap.size := ⟨_, rfl⟩
  obtain ⟨x1, hx1⟩ : ∃ y, y = x0 + 1 := ⟨_, rfl⟩
  obtain ⟨x2, hx2⟩ : ∃ y, y = x1 + 1 := ⟨_, rfl⟩
  have ho1 : Only (fun _ => False) w w1 := by rw [hw1]; exact (((Only.refl _ _).alloc _).alloc _).alloc _
  have k0 : w1.cell? ⟨x0, 0, none⟩ = some (.pointer (some ⟨p, 0, none⟩)) := by rw [hw1]; exact (((Only.refl (fun _ => False) _).alloc _).alloc _).cell' (tre.alloc_cell (w := w) (by simp [hx0]) rfl) (fun f => f)
  have k1 : w1.cell? ⟨x1, 0, none⟩ = some (.int .i64 n) := by rw [hw1]; exact ((Only.refl (fun _ => False) _).alloc _).cell' (tre.alloc_cell (w := (w.alloc (.cells #[.pointer (some ⟨p, 0, none⟩)] 25))) (by simp [hx0, hx1]) rfl) (fun f => f)
  have k2 : w1.cell? ⟨x2, 0, none⟩ = some (.int .i64 x) := by rw [hw1]; exact (Only.refl (fun _ => False) _).cell' (tre.alloc_cell (w := ((w.alloc (.cells #[.pointer (some ⟨p, 0, none⟩)] 25)).alloc (.cells #[.int .i64 n] 3))) (by simp [hx0, hx1, hx2]) rfl) (fun f => f)
  have HP1 := Lib.hid (h.quiet ho1)
  have HO1 := Lib.hid ho1
  have hxs : w.heap.size ≤ x0 := by omega
  have hnx : ∀ i : Nat, w.heap.size ≤ i → i ≠ pb := fun i hi e => by have := h.lt.2; omega
  obtain ⟨w2, hw2⟩ : ∃ y, y = w1.alloc (.cells #[.int .i64 n] 3) := ⟨_, rfl⟩
  obtain ⟨g2, hg2⟩ : ∃ y, y = w1.heap.size := ⟨_, rfl⟩
  have ho2 : Only (fun _ => False) w1 w2 := by rw [hw2]; exact (Only.refl _ _).alloc _
  have hr2 : ReadsI w2 (some ⟨g2, 0, none⟩) 1 [n] := ⟨rfl, by unfold maxLen; omega, fun c hc => by rw [List.mem_singleton] at hc; rw [hc]; exact hn, .inr ⟨g2, 0, rfl, fun i hi => by
      obtain rfl : i = 0 := by omega
      rw [hw2]; exact tre.alloc_cell hg2 rfl⟩⟩
  have HMV := Lib.hid (move_top 1 x 0 gr0_in (some ⟨g2, 0, none⟩) 1 1 [n] x0 x1 x2 (fnd.topA A n x) (fnd.topE A n x) w2 (h.quiet (ho1.trans ho2)) (fun q hq => by have := hS q hq; have := (ho1.trans ho2).size; omega) hL hr2 (by omega) (by omega) (fun y e s => by injection e with e; have h2 := hS _ s; have h3 := ho1.size; rw [← e] at h2; have h2 : g2 < w.heap.size := h2; omega) (fun w' ho => cptop_any p pb A n x x0 x1 x2 w' (((ho1.trans ho2).trans ho).cell' h.c0 (fun f => f)) ((ho2.trans ho).cell' k0 (fun f => f)) ((ho2.trans ho).cell' k1 (fun f => f)) ((ho2.trans ho).cell' k2 (fun f => f)) h.ne (hnx _ (by omega)) (hnx _ (by omega)) (hnx _ (by omega)) (h.bk.only ((ho1.trans ho2).trans ho) (fun f => f)) h.bok) (h.bok.topA n x) (fun e => by unfold fnd.topA; rw [if_neg e]) (ch_top h.bok.len n x))
  have HO2 := Lib.hid (ho1.trans ho2)
  have HXE : Hid (x0 = w.heap.size ∧ x1 = w.heap.size + 1 ∧ x2 = w.heap.size + 2) := Lib.hid (by omega)
  clear h hS hnx
  go_enter Tryz.func10, Tryz.ntmps10
  go_upto_region 1 with fail
  simp only [← hw1]
  simp only [← hx0]
  try simp only [← hx1]
  try simp only [← hx2]
  clear hw1 hx0 hx1 hx2 hxs ho1
  go_wp2_with fail
  try simp only [← hw2, ← hg2]
  refine HMV.out.mono ?_
  rintro _ w3 hmv
  have HMR := Lib.hid (MvR.frm HO2.out hmv)
  clear HMV
  rcases hmv with ⟨er, hne, rfl, -⟩ | ⟨-, rfl, -⟩
  · go_wp2_with fail
    go_ret
    exact HMR.out
  · go_wp2_with fail
    go_ret
    exact HMR.out
set_option maxRecDepth 100000 in
set_option maxHeartbeats 4000000 in
theorem cphold_any (p pb : Nat) (A : List fnd.Ac) (a : Option Addr) (len cap : Nat) (l : List Int) (a2 : Option Addr) (m c2 : Nat) (ls : List Int) (x : Int) (x0 x1 x2 x3 : Nat) (z : World) (h0 : z.cell? ⟨p, 0, none⟩ = some (.pointer (some ⟨pb, 0, none⟩))) (h1 : z.cell? ⟨x0, 0, none⟩ = some (.pointer (some ⟨p, 0, none⟩))) (h2 : z.cell? ⟨x1, 0, none⟩ = some (.slice a len cap)) (h3 : z.cell? ⟨x2, 0, none⟩ = some (.slice a2 m c2)) (h4 : z.cell? ⟨x3, 0, none⟩ = some (.int .i64 x)) (hne : p ≠ pb) (hx0 : x0 ≠ pb) (hx1 : x1 ≠ pb) (hx2 : x2 ≠ pb) (hx3 : x3 ≠ pb) (hbk : fnd.BkAt z pb A) (hok : fnd.Bok A) (hr : ReadsI z a len l) (hlc : len ≤ cap) (hr2 : ReadsI z a2 m ls) (hap : ∀ y, a = some y → y.block ≠ pb) :
    Calls Tryz.prog 40 #[.pointer (some ⟨x0, 0, none⟩), .pointer (some ⟨x1, 0, none⟩), .pointer (some ⟨x2, 0, none⟩), .pointer (some ⟨x3, 0, none⟩)] z (fnd.FDid pb (fnd.holdA A l ls x) (fnd.holdE A l ls x) z) := by
  have HCB : Hid (∀ w', Only (fun _ => False) z w' → Calls Tryz.prog 41 #[.pointer (some ⟨pb, 0, none⟩), .slice a len cap, .slice a2 m c2, .int .i64 x] w' (fnd.FDid pb (fnd.holdA A l ls x) (fnd.holdE A l ls x) w')) := Lib.hid (fun w' ho => fnd.hold_any pb A a len cap l a2 m c2 ls x w' (hbk.only ho (fun f => f)) (hok) (hr.only ho (fun _ _ f => f)) hlc (hr2.only ho (fun _ _ f => f)) hap)
  have HSL : Hid (∀ w', Only (fun _ => False) z w' → w'.cell? ⟨p, 0, none⟩ = some (.pointer (some ⟨pb, 0, none⟩)) ∧ w'.cell? ⟨x0, 0, none⟩ = some (.pointer (some ⟨p, 0, none⟩)) ∧ w'.cell? ⟨x1, 0, none⟩ = some (.slice a len cap) ∧ w'.cell? ⟨x2, 0, none⟩ = some (.slice a2 m c2) ∧ w'.cell? ⟨x3, 0, none⟩ = some (.int .i64 x)) := Lib.hid (fun w' ho => ⟨ho.cell' h0 (fun f => f), ho.cell' h1 (fun f => f), ho.cell' h2 (fun f => f), ho.cell' h3 (fun f => f), ho.cell' h4 (fun f => f)⟩)
  have HSF : Hid (∀ w', Only (fun _ => False) z w' → ∀ w2, Only (fun q => q = pb) w' w2 → w2.cell? ⟨p, 0, none⟩ = some (.pointer (some ⟨pb, 0, none⟩)) ∧ w2.cell? ⟨x0, 0, none⟩ = some (.pointer (some ⟨p, 0, none⟩)) ∧ w2.cell? ⟨x1, 0, none⟩ = some (.slice a len cap) ∧ w2.cell? ⟨x2, 0, none⟩ = some (.slice a2 m c2) ∧ w2.cell? ⟨x3, 0, none⟩ = some (.int .i64 x)) := Lib.hid (fun w' ho w2 ho2 => ⟨ho2.cell' (ho.cell' h0 (fun f => f)) hne, ho2.cell' (ho.cell' h1 (fun f => f)) hx0, ho2.cell' (ho.cell' h2 (fun f => f)) hx1, ho2.cell' (ho.cell' h3 (fun f => f)) hx2, ho2.cell' (ho.cell' h4 (fun f => f)) hx3⟩)
  clear h0 h1 h2 h3 h4 hbk hok hr hr2 hap
  go_enter Tryz.func40, Tryz.ntmps40
  go_upto_region 1 with fail
  refine wp_region_noPanic ?_
  refine late.region (fun w' => w'.cell? ⟨p, 0, none⟩ = some (.pointer (some ⟨pb, 0, none⟩)) ∧ w'.cell? ⟨x0, 0, none⟩ = some (.pointer (some ⟨p, 0, none⟩)) ∧ w'.cell? ⟨x1, 0, none⟩ = some (.slice a len cap) ∧ w'.cell? ⟨x2, 0, none⟩ = some (.slice a2 m c2) ∧ w'.cell? ⟨x3, 0, none⟩ = some (.int .i64 x)) (fun j => [].contains j) (by kernel_rfl) (HSL.out _ (Only.refl _ _).drew) (fun hHeld => ?_)
  obtain ⟨z0, hz0'⟩ : ∃ x, x = z.drew := ⟨_, rfl⟩
  rw [← hz0'] at hHeld ⊢
  have hot : Hid (Only (fun _ => False) z z0) := Lib.hid (by rw [hz0']; exact (Only.refl _ _).drew)
  clear hz0'
  refine sho.lt 0 [1, 2, 3, 7, 8] ?_
  refine sho.lt 1 [2, 3, 7, 8] ?_
  refine sho.lt 2 [3, 7, 8] ?_
  refine sho.lt 3 [7, 8] ?_
  refine sho.lt 4 [7, 8] ?_
  refine sho.lt 5 [7, 8] ?_
  refine sho.lt 6 [7, 8] ?_
  refine late.ready (rs := [7]) (by kernel_rfl) (by simp) ?_
  refine late.Each.cons rfl (fun K hK => ?_) late.Each.nil
  try simp only [List.getElem_toArray, List.getElem_cons_zero, List.getElem_cons_succ]
  go_simp
  go_at_call 41
  with_reducible refine (HCB.out _ hot.out).mono ?_
  rintro _ z1 ⟨rfl, hb, ho⟩
  have HEND : Hid (fnd.FDid pb (fnd.holdA A l ls x) (fnd.holdE A l ls x) z (.returned (.int .i64 (fnd.holdE A l ls x))) z1) := Lib.hid ⟨rfl, hb, (hot.out.mono (fun _ _ f => f.elim)).trans ho⟩
  have HSZ := Lib.hid (HSF.out _ hot.out _ ho)
  clear hb ho hot HCB
  try dsimp only
  refine hK.out _ _ (fun _ => HSZ.out) (fun hHeld1 => ?_)
  replace hHeld1 := hHeld1 rfl
  clear hK K
  try simp only [List.getElem_toArray, List.getElem_cons_zero, List.getElem_cons_succ, Act.put, List.setIfInBounds_toArray, List.set_cons_zero, List.set_cons_succ]
  refine sho.lt 8 [] ?_
  refine late.done (by kernel_rfl) ?_ _
  refine NoPanic.normal ?_
  clear hHeld HSZ HSF HSL
  go_wp2_with fail
  go_ret
  exact HEND.out
set_option maxRecDepth 100000 in
set_option maxHeartbeats 4000000 in
theorem phold_any {S : Nat → Prop} {p pb pj : Nat} {A : List fnd.Ac} {op : Nat} {C : AcC → Option (List Int)} {L : List jnw.Ps} (a : Option Addr) (len cap : Nat) (l : List Int) (a2 : Option Addr) (m c2 : Nat) (ls : List Int) (x : Int) (w : World) (h : Pu S w p pb pj A op C L) (hS : ∀ q, S q → q < w.heap.size) (hL : L.length < 16384) (hr : ReadsI w a len l) (hlc : len ≤ cap) (hcm : cap ≤ 9223372036854775807) (hr2 : ReadsI w a2 m ls) (ha : ∀ y, a = some y → ¬ S y.block) :
    Calls Tryz.prog 11 #[.pointer (some ⟨p, 0, none⟩), .slice a len cap, .slice a2 m c2, .int .i64 x] w (MvR S w p pb pj A op C L 2 x 0 l (fnd.holdA A l ls x) (fnd.holdE A l ls x)) := by
  obtain ⟨w1, hw1⟩ : ∃ y, y = ((((w.alloc (.cells #[.pointer (some ⟨p, 0, none⟩)] 25)).alloc (.cells #[.slice a len cap] 37)).alloc (.cells #[.slice a2 m c2] 37)).alloc (.cells #[.int .i64 x] 3)) := ⟨_, rfl⟩
  obtain ⟨x0, hx0⟩ : ∃ y, y = w.heap.size := ⟨_, rfl⟩
  obtain ⟨x1, hx1⟩ : ∃ y, y = x0 + 1 := ⟨_, rfl⟩
  obtain ⟨x2, hx2⟩ : ∃ y, y = x1 + 1 := ⟨_, rfl⟩
  obtain ⟨x3, hx3⟩ : ∃ y, y = x2 + 1 := ⟨_, rfl⟩
  have ho1 : Only (fun _ => False) w w1 := by rw [hw1]; exact ((((Only.refl _ _).alloc _).alloc _).alloc _).alloc _
  have k0 : w1.cell? ⟨x0, 0, none⟩ = some (.pointer (some ⟨p, 0, none⟩)) := by rw [hw1]; exact ((((Only.refl (fun _ => False) _).alloc _).alloc _).alloc _).cell' (tre.alloc_cell (w := w) (by simp [hx0]) rfl) (fun f => f)
  have k1 : w1.cell? ⟨x1, 0, none⟩ = some (.slice a len cap) := by rw [hw1]; exact (((Only.refl (fun _ => False) _).alloc _).alloc _).cell' (tre.alloc_cell (w := (w.alloc (.cells #[.pointer (some ⟨p, 0, none⟩)] 25))) (by simp [hx0, hx1]) rfl) (fun f => f)
  have k2 : w1.cell? ⟨x2, 0, none⟩ = some (.slice a2 m c2) := by rw [hw1]; exact ((Only.refl (fun _ => False) _).alloc _).cell' (tre.alloc_cell (w := ((w.alloc (.cells #[.pointer (some ⟨p, 0, none⟩)] 25)).alloc (.cells #[.slice a len cap] 37))) (by simp [hx0, hx1, hx2]) rfl) (fun f => f)
  have k3 : w1.cell? ⟨x3, 0, none⟩ = some (.int .i64 x) := by rw [hw1]; exact (Only.refl (fun _ => False) _).cell' (tre.alloc_cell (w := (((w.alloc (.cells #[.pointer (some ⟨p, 0, none⟩)] 25)).alloc (.cells #[.slice a len cap] 37)).alloc (.cells #[.slice a2 m c2] 37))) (by simp [hx0, hx1, hx2, hx3]) rfl) (fun f => f)
  have HP1 := Lib.hid (h.quiet ho1)
  have HO1 := Lib.hid ho1
  have hxs : w.heap.size ≤ x0 := by omega
  have hnx : ∀ i : Nat, w.heap.size ≤ i → i ≠ pb := fun i hi e => by have := h.lt.2; omega
  have HMV := Lib.hid (move_hold 2 x 0 gr0_in a len cap l x0 x1 x2 x3 (fnd.holdA A l ls x) (fnd.holdE A l ls x) w1 (h.quiet ho1) (fun q hq => by have := hS q hq; have := ho1.size; omega) hL (hr.only ho1 (fun _ _ f => f)) hlc hcm ha (fun w' ho => cphold_any p pb A a len cap l a2 m c2 ls x x0 x1 x2 x3 w' ((ho1.trans ho).cell' h.c0 (fun f => f)) (ho.cell' k0 (fun f => f)) (ho.cell' k1 (fun f => f)) (ho.cell' k2 (fun f => f)) (ho.cell' k3 (fun f => f)) h.ne (hnx _ (by omega)) (hnx _ (by omega)) (hnx _ (by omega)) (hnx _ (by omega)) (h.bk.only (ho1.trans ho) (fun f => f)) h.bok (hr.only (ho1.trans ho) (fun _ _ f => f)) hlc (hr2.only (ho1.trans ho) (fun _ _ f => f)) (fun y e e2 => ha y e (by rw [e2]; exact h.sb))) (h.bok.holdA l ls x) (fun e => by unfold fnd.holdA; rw [if_neg e]) (ch_hold l ls x))
  have HO2 := Lib.hid ho1
  have HXE : Hid (x0 = w.heap.size ∧ x1 = w.heap.size + 1 ∧ x2 = w.heap.size + 2 ∧ x3 = w.heap.size + 3) := Lib.hid (by omega)
  clear h hS hnx hr ha hr2
  go_enter Tryz.func11, Tryz.ntmps11
  go_upto_region 1 with fail
  simp only [← hw1]
  simp only [← hx0]
  try simp only [← hx1]
  try simp only [← hx2]
  try simp only [← hx3]
  clear hw1 hx0 hx1 hx2 hx3 hxs ho1
  go_wp2_with fail
  refine HMV.out.mono ?_
  rintro _ w3 hmv
  have HMR := Lib.hid (MvR.frm HO2.out hmv)
  clear HMV
  rcases hmv with ⟨er, hne, rfl, -⟩ | ⟨-, rfl, -⟩
  · go_wp2_with fail
    go_ret
    exact HMR.out
  · go_wp2_with fail
    go_ret
    exact HMR.out
set_option maxRecDepth 100000 in
set_option maxHeartbeats 4000000 in
theorem cprel_any (p pb : Nat) (A : List fnd.Ac) (a : Option Addr) (len cap : Nat) (l : List Int) (x : Int) (x0 x1 x2 : Nat) (z : World) (h0 : z.cell? ⟨p, 0, none⟩ = some (.pointer (some ⟨pb, 0, none⟩))) (h1 : z.cell? ⟨x0, 0, none⟩ = some (.pointer (some ⟨p, 0, none⟩))) (h2 : z.cell? ⟨x1, 0, none⟩ = some (.slice a len cap)) (h3 : z.cell? ⟨x2, 0, none⟩ = some (.int .i64 x)) (hne : p ≠ pb) (hx0 : x0 ≠ pb) (hx1 : x1 ≠ pb) (hx2 : x2 ≠ pb) (hbk : fnd.BkAt z pb A) (hok : fnd.Bok A) (hr : ReadsI z a len l) (hlc : len ≤ cap) (hap : ∀ y, a = some y → y.block ≠ pb) :
    Calls Tryz.prog 42 #[.pointer (some ⟨x0, 0, none⟩), .pointer (some ⟨x1, 0, none⟩), .pointer (some ⟨x2, 0, none⟩)] z (fnd.FDid pb (fnd.shA A l x (-x) 0) (fnd.shE A l x (-x) 0) z) := by
  have HCB : Hid (∀ w', Only (fun _ => False) z w' → Calls Tryz.prog 43 #[.pointer (some ⟨pb, 0, none⟩), .slice a len cap, .int .i64 x] w' (fnd.FDid pb (fnd.shA A l x (-x) 0) (fnd.shE A l x (-x) 0) w')) := Lib.hid (fun w' ho => fnd.release_any pb A a len cap l x w' (hbk.only ho (fun f => f)) (hok) (hr.only ho (fun _ _ f => f)) hlc hap)
  have HSL : Hid (∀ w', Only (fun _ => False) z w' → w'.cell? ⟨p, 0, none⟩ = some (.pointer (some ⟨pb, 0, none⟩)) ∧ w'.cell? ⟨x0, 0, none⟩ = some (.pointer (some ⟨p, 0, none⟩)) ∧ w'.cell? ⟨x1, 0, none⟩ = some (.slice a len cap) ∧ w'.cell? ⟨x2, 0, none⟩ = some (.int .i64 x)) := Lib.hid (fun w' ho => ⟨ho.cell' h0 (fun f => f), ho.cell' h1 (fun f => f), ho.cell' h2 (fun f => f), ho.cell' h3 (fun f => f)⟩)
  have HSF : Hid (∀ w', Only (fun _ => False) z w' → ∀ w2, Only (fun q => q = pb) w' w2 → w2.cell? ⟨p, 0, none⟩ = some (.pointer (some ⟨pb, 0, none⟩)) ∧ w2.cell? ⟨x0, 0, none⟩ = some (.pointer (some ⟨p, 0, none⟩)) ∧ w2.cell? ⟨x1, 0, none⟩ = some (.slice a len cap) ∧ w2.cell? ⟨x2, 0, none⟩ = some (.int .i64 x)) := Lib.hid (fun w' ho w2 ho2 => ⟨ho2.cell' (ho.cell' h0 (fun f => f)) hne, ho2.cell' (ho.cell' h1 (fun f => f)) hx0, ho2.cell' (ho.cell' h2 (fun f => f)) hx1, ho2.cell' (ho.cell' h3 (fun f => f)) hx2⟩)
  clear h0 h1 h2 h3 hbk hok hr hap
  go_enter Tryz.func42, Tryz.ntmps42
  go_upto_region 1 with fail
  refine wp_region_noPanic ?_
  refine late.region (fun w' => w'.cell? ⟨p, 0, none⟩ = some (.pointer (some ⟨pb, 0, none⟩)) ∧ w'.cell? ⟨x0, 0, none⟩ = some (.pointer (some ⟨p, 0, none⟩)) ∧ w'.cell? ⟨x1, 0, none⟩ = some (.slice a len cap) ∧ w'.cell? ⟨x2, 0, none⟩ = some (.int .i64 x)) (fun j => [].contains j) (by kernel_rfl) (HSL.out _ (Only.refl _ _).drew) (fun hHeld => ?_)
  obtain ⟨z0, hz0'⟩ : ∃ x, x = z.drew := ⟨_, rfl⟩
  rw [← hz0'] at hHeld ⊢
  have hot : Hid (Only (fun _ => False) z z0) := Lib.hid (by rw [hz0']; exact (Only.refl _ _).drew)
  clear hz0'
  refine sho.lt 0 [1, 2, 3, 6, 7] ?_
  refine sho.lt 1 [2, 3, 6, 7] ?_
  refine sho.lt 2 [3, 6, 7] ?_
  refine sho.lt 3 [6, 7] ?_
  refine sho.lt 4 [6, 7] ?_
  refine sho.lt 5 [6, 7] ?_
  refine late.ready (rs := [6]) (by kernel_rfl) (by simp) ?_
  refine late.Each.cons rfl (fun K hK => ?_) late.Each.nil
  try simp only [List.getElem_toArray, List.getElem_cons_zero, List.getElem_cons_succ]
  go_simp
  go_at_call 43
  with_reducible refine (HCB.out _ hot.out).mono ?_
  rintro _ z1 ⟨rfl, hb, ho⟩
  have HEND : Hid (fnd.FDid pb (fnd.shA A l x (-x) 0) (fnd.shE A l x (-x) 0) z (.returned (.int .i64 (fnd.shE A l x (-x) 0))) z1) := Lib.hid ⟨rfl, hb, (hot.out.mono (fun _ _ f => f.elim)).trans ho⟩
  have HSZ := Lib.hid (HSF.out _ hot.out _ ho)
  clear hb ho hot HCB
  try dsimp only
  refine hK.out _ _ (fun _ => HSZ.out) (fun hHeld1 => ?_)
  replace hHeld1 := hHeld1 rfl
  clear hK K
  try simp only [List.getElem_toArray, List.getElem_cons_zero, List.getElem_cons_succ, Act.put, List.setIfInBounds_toArray, List.set_cons_zero, List.set_cons_succ]
  refine sho.lt 7 [] ?_
  refine late.done (by kernel_rfl) ?_ _
  refine NoPanic.normal ?_
  clear hHeld HSZ HSF HSL
  go_wp2_with fail
  go_ret
  exact HEND.out
set_option maxRecDepth 100000 in
set_option maxHeartbeats 4000000 in
theorem prel_any {S : Nat → Prop} {p pb pj : Nat} {A : List fnd.Ac} {op : Nat} {C : AcC → Option (List Int)} {L : List jnw.Ps} (a : Option Addr) (len cap : Nat) (l : List Int) (x : Int) (w : World) (h : Pu S w p pb pj A op C L) (hS : ∀ q, S q → q < w.heap.size) (hL : L.length < 16384) (hr : ReadsI w a len l) (hlc : len ≤ cap) (hcm : cap ≤ 9223372036854775807) (ha : ∀ y, a = some y → ¬ S y.block) :
    Calls Tryz.prog 12 #[.pointer (some ⟨p, 0, none⟩), .slice a len cap, .int .i64 x] w (MvR S w p pb pj A op C L 3 x 0 l (fnd.shA A l x (-x) 0) (fnd.shE A l x (-x) 0)) := by
  obtain ⟨w1, hw1⟩ : ∃ y, y = (((w.alloc (.cells #[.pointer (some ⟨p, 0, none⟩)] 25)).alloc (.cells #[.slice a len cap] 37)).alloc (.cells #[.int .i64 x] 3)) := ⟨_, rfl⟩
  obtain ⟨x0, hx0⟩ : ∃ y, y = w.heap.size := ⟨_, rfl⟩
  obtain ⟨x1, hx1⟩ : ∃ y, y = x0 + 1 := ⟨_, rfl⟩
  obtain ⟨x2, hx2⟩ : ∃ y, y = x1 + 1 := ⟨_, rfl⟩
  have ho1 : Only (fun _ => False) w w1 := by rw [hw1]; exact (((Only.refl _ _).alloc _).alloc _).alloc _
  have k0 : w1.cell? ⟨x0, 0, none⟩ = some (.pointer (some ⟨p, 0, none⟩)) := by rw [hw1]; exact (((Only.refl (fun _ => False) _).alloc _).alloc _).cell' (tre.alloc_cell (w := w) (by simp [hx0]) rfl) (fun f => f)
  have k1 : w1.cell? ⟨x1, 0, none⟩ = some (.slice a len cap) := by rw [hw1]; exact ((Only.refl (fun _ => False) _).alloc _).cell' (tre.alloc_cell (w := (w.alloc (.cells #[.pointer (some ⟨p, 0, none⟩)] 25))) (by simp [hx0, hx1]) rfl) (fun f => f)
  have k2 : w1.cell? ⟨x2, 0, none⟩ = some (.int .i64 x) := by rw [hw1]; exact (Only.refl (fun _ => False) _).cell' (tre.alloc_cell (w := ((w.alloc (.cells #[.pointer (some ⟨p, 0, none⟩)] 25)).alloc (.cells #[.slice a len cap] 37))) (by simp [hx0, hx1, hx2]) rfl) (fun f => f)
  have HP1 := Lib.hid (h.quiet ho1)
  have HO1 := Lib.hid ho1
  have hxs : w.heap.size ≤ x0 := by omega
  have hnx : ∀ i : Nat, w.heap.size ≤ i → i ≠ pb := fun i hi e => by have := h.lt.2; omega
  have HMV := Lib.hid (move_rel 3 x 0 gr0_in a len cap l x0 x1 x2 (fnd.shA A l x (-x) 0) (fnd.shE A l x (-x) 0) w1 (h.quiet ho1) (fun q hq => by have := hS q hq; have := ho1.size; omega) hL (hr.only ho1 (fun _ _ f => f)) hlc hcm ha (fun w' ho => cprel_any p pb A a len cap l x x0 x1 x2 w' ((ho1.trans ho).cell' h.c0 (fun f => f)) (ho.cell' k0 (fun f => f)) (ho.cell' k1 (fun f => f)) (ho.cell' k2 (fun f => f)) h.ne (hnx _ (by omega)) (hnx _ (by omega)) (hnx _ (by omega)) (h.bk.only (ho1.trans ho) (fun f => f)) h.bok (hr.only (ho1.trans ho) (fun _ _ f => f)) hlc (fun y e e2 => ha y e (by rw [e2]; exact h.sb))) (h.bok.shA l x (fun hx => by obtain ⟨h1, h2⟩ := hx; omega)) (fun e => by unfold fnd.shA; rw [if_neg e]) (ch_sh l x (-x) 0))
  have HO2 := Lib.hid ho1
  have HXE : Hid (x0 = w.heap.size ∧ x1 = w.heap.size + 1 ∧ x2 = w.heap.size + 2) := Lib.hid (by omega)
  clear h hS hnx hr ha
  go_enter Tryz.func12, Tryz.ntmps12
  go_upto_region 1 with fail
  simp only [← hw1]
  simp only [← hx0]
  try simp only [← hx1]
  try simp only [← hx2]
  clear hw1 hx0 hx1 hx2 hxs ho1
  go_wp2_with fail
  refine HMV.out.mono ?_
  rintro _ w3 hmv
  have HMR := Lib.hid (MvR.frm HO2.out hmv)
  clear HMV
  rcases hmv with ⟨er, hne, rfl, -⟩ | ⟨-, rfl, -⟩
  · go_wp2_with fail
    go_ret
    exact HMR.out
  · go_wp2_with fail
    go_ret
    exact HMR.out
set_option maxRecDepth 100000 in
set_option maxHeartbeats 4000000 in
theorem cpcom_any (p pb : Nat) (A : List fnd.Ac) (a : Option Addr) (len cap : Nat) (l : List Int) (x : Int) (x0 x1 x2 : Nat) (z : World) (h0 : z.cell? ⟨p, 0, none⟩ = some (.pointer (some ⟨pb, 0, none⟩))) (h1 : z.cell? ⟨x0, 0, none⟩ = some (.pointer (some ⟨p, 0, none⟩))) (h2 : z.cell? ⟨x1, 0, none⟩ = some (.slice a len cap)) (h3 : z.cell? ⟨x2, 0, none⟩ = some (.int .i64 x)) (hne : p ≠ pb) (hx0 : x0 ≠ pb) (hx1 : x1 ≠ pb) (hx2 : x2 ≠ pb) (hbk : fnd.BkAt z pb A) (hok : fnd.Bok A) (hr : ReadsI z a len l) (hlc : len ≤ cap) (hap : ∀ y, a = some y → y.block ≠ pb) :
    Calls Tryz.prog 44 #[.pointer (some ⟨x0, 0, none⟩), .pointer (some ⟨x1, 0, none⟩), .pointer (some ⟨x2, 0, none⟩)] z (fnd.FDid pb (fnd.shA A l x (-x) x) (fnd.shE A l x (-x) x) z) := by
  have HCB : Hid (∀ w', Only (fun _ => False) z w' → Calls Tryz.prog 45 #[.pointer (some ⟨pb, 0, none⟩), .slice a len cap, .int .i64 x] w' (fnd.FDid pb (fnd.shA A l x (-x) x) (fnd.shE A l x (-x) x) w')) := Lib.hid (fun w' ho => fnd.commit_any pb A a len cap l x w' (hbk.only ho (fun f => f)) (hok) (hr.only ho (fun _ _ f => f)) hlc hap)
  have HSL : Hid (∀ w', Only (fun _ => False) z w' → w'.cell? ⟨p, 0, none⟩ = some (.pointer (some ⟨pb, 0, none⟩)) ∧ w'.cell? ⟨x0, 0, none⟩ = some (.pointer (some ⟨p, 0, none⟩)) ∧ w'.cell? ⟨x1, 0, none⟩ = some (.slice a len cap) ∧ w'.cell? ⟨x2, 0, none⟩ = some (.int .i64 x)) := Lib.hid (fun w' ho => ⟨ho.cell' h0 (fun f => f), ho.cell' h1 (fun f => f), ho.cell' h2 (fun f => f), ho.cell' h3 (fun f => f)⟩)
  have HSF : Hid (∀ w', Only (fun _ => False) z w' → ∀ w2, Only (fun q => q = pb) w' w2 → w2.cell? ⟨p, 0, none⟩ = some (.pointer (some ⟨pb, 0, none⟩)) ∧ w2.cell? ⟨x0, 0, none⟩ = some (.pointer (some ⟨p, 0, none⟩)) ∧ w2.cell? ⟨x1, 0, none⟩ = some (.slice a len cap) ∧ w2.cell? ⟨x2, 0, none⟩ = some (.int .i64 x)) := Lib.hid (fun w' ho w2 ho2 => ⟨ho2.cell' (ho.cell' h0 (fun f => f)) hne, ho2.cell' (ho.cell' h1 (fun f => f)) hx0, ho2.cell' (ho.cell' h2 (fun f => f)) hx1, ho2.cell' (ho.cell' h3 (fun f => f)) hx2⟩)
  clear h0 h1 h2 h3 hbk hok hr hap
  go_enter Tryz.func44, Tryz.ntmps44
  go_upto_region 1 with fail
  refine wp_region_noPanic ?_
  refine late.region (fun w' => w'.cell? ⟨p, 0, none⟩ = some (.pointer (some ⟨pb, 0, none⟩)) ∧ w'.cell? ⟨x0, 0, none⟩ = some (.pointer (some ⟨p, 0, none⟩)) ∧ w'.cell? ⟨x1, 0, none⟩ = some (.slice a len cap) ∧ w'.cell? ⟨x2, 0, none⟩ = some (.int .i64 x)) (fun j => [].contains j) (by kernel_rfl) (HSL.out _ (Only.refl _ _).drew) (fun hHeld => ?_)
  obtain ⟨z0, hz0'⟩ : ∃ x, x = z.drew := ⟨_, rfl⟩
  rw [← hz0'] at hHeld ⊢
  have hot : Hid (Only (fun _ => False) z z0) := Lib.hid (by rw [hz0']; exact (Only.refl _ _).drew)
  clear hz0'
  refine sho.lt 0 [1, 2, 3, 6, 7] ?_
  refine sho.lt 1 [2, 3, 6, 7] ?_
  refine sho.lt 2 [3, 6, 7] ?_
  refine sho.lt 3 [6, 7] ?_
  refine sho.lt 4 [6, 7] ?_
  refine sho.lt 5 [6, 7] ?_
  refine late.ready (rs := [6]) (by kernel_rfl) (by simp) ?_
  refine late.Each.cons rfl (fun K hK => ?_) late.Each.nil
  try simp only [List.getElem_toArray, List.getElem_cons_zero, List.getElem_cons_succ]
  go_simp
  go_at_call 45
  with_reducible refine (HCB.out _ hot.out).mono ?_
  rintro _ z1 ⟨rfl, hb, ho⟩
  have HEND : Hid (fnd.FDid pb (fnd.shA A l x (-x) x) (fnd.shE A l x (-x) x) z (.returned (.int .i64 (fnd.shE A l x (-x) x))) z1) := Lib.hid ⟨rfl, hb, (hot.out.mono (fun _ _ f => f.elim)).trans ho⟩
  have HSZ := Lib.hid (HSF.out _ hot.out _ ho)
  clear hb ho hot HCB
  try dsimp only
  refine hK.out _ _ (fun _ => HSZ.out) (fun hHeld1 => ?_)
  replace hHeld1 := hHeld1 rfl
  clear hK K
  try simp only [List.getElem_toArray, List.getElem_cons_zero, List.getElem_cons_succ, Act.put, List.setIfInBounds_toArray, List.set_cons_zero, List.set_cons_succ]
  refine sho.lt 7 [] ?_
  refine late.done (by kernel_rfl) ?_ _
  refine NoPanic.normal ?_
  clear hHeld HSZ HSF HSL
  go_wp2_with fail
  go_ret
  exact HEND.out
set_option maxRecDepth 100000 in
set_option maxHeartbeats 4000000 in
theorem pcom_any {S : Nat → Prop} {p pb pj : Nat} {A : List fnd.Ac} {op : Nat} {C : AcC → Option (List Int)} {L : List jnw.Ps} (a : Option Addr) (len cap : Nat) (l : List Int) (x : Int) (gr : Int) (w : World) (h : Pu S w p pb pj A op C L) (hS : ∀ q, S q → q < w.heap.size) (hL : L.length < 16384) (hr : ReadsI w a len l) (hlc : len ≤ cap) (hcm : cap ≤ 9223372036854775807) (ha : ∀ y, a = some y → ¬ S y.block) (hgr : entw.InI gr) :
    Calls Tryz.prog 13 #[.pointer (some ⟨p, 0, none⟩), .slice a len cap, .int .i64 x, .int .i64 gr] w (MvR S w p pb pj A op C L 4 x gr l (fnd.shA A l x (-x) x) (fnd.shE A l x (-x) x)) := by
  obtain ⟨w1, hw1⟩ : ∃ y, y = (((w.alloc (.cells #[.pointer (some ⟨p, 0, none⟩)] 25)).alloc (.cells #[.slice a len cap] 37)).alloc (.cells #[.int .i64 x] 3)) := ⟨_, rfl⟩
  obtain ⟨x0, hx0⟩ : ∃ y, y = w.heap.size := ⟨_, rfl⟩
  obtain ⟨x1, hx1⟩ : ∃ y, y = x0 + 1 := ⟨_, rfl⟩
  obtain ⟨x2, hx2⟩ : ∃ y, y = x1 + 1 := ⟨_, rfl⟩
  have ho1 : Only (fun _ => False) w w1 := by rw [hw1]; exact (((Only.refl _ _).alloc _).alloc _).alloc _
  have k0 : w1.cell? ⟨x0, 0, none⟩ = some (.pointer (some ⟨p, 0, none⟩)) := by rw [hw1]; exact (((Only.refl (fun _ => False) _).alloc _).alloc _).cell' (tre.alloc_cell (w := w) (by simp [hx0]) rfl) (fun f => f)
  have k1 : w1.cell? ⟨x1, 0, none⟩ = some (.slice a len cap) := by rw [hw1]; exact ((Only.refl (fun _ => False) _).alloc _).cell' (tre.alloc_cell (w := (w.alloc (.cells #[.pointer (some ⟨p, 0, none⟩)] 25))) (by simp [hx0, hx1]) rfl) (fun f => f)
  have k2 : w1.cell? ⟨x2, 0, none⟩ = some (.int .i64 x) := by rw [hw1]; exact (Only.refl (fun _ => False) _).cell' (tre.alloc_cell (w := ((w.alloc (.cells #[.pointer (some ⟨p, 0, none⟩)] 25)).alloc (.cells #[.slice a len cap] 37))) (by simp [hx0, hx1, hx2]) rfl) (fun f => f)
  have HP1 := Lib.hid (h.quiet ho1)
  have HO1 := Lib.hid ho1
  have hxs : w.heap.size ≤ x0 := by omega
  have hnx : ∀ i : Nat, w.heap.size ≤ i → i ≠ pb := fun i hi e => by have := h.lt.2; omega
  have HMV := Lib.hid (move_com 4 x gr hgr a len cap l x0 x1 x2 (fnd.shA A l x (-x) x) (fnd.shE A l x (-x) x) w1 (h.quiet ho1) (fun q hq => by have := hS q hq; have := ho1.size; omega) hL (hr.only ho1 (fun _ _ f => f)) hlc hcm ha (fun w' ho => cpcom_any p pb A a len cap l x x0 x1 x2 w' ((ho1.trans ho).cell' h.c0 (fun f => f)) (ho.cell' k0 (fun f => f)) (ho.cell' k1 (fun f => f)) (ho.cell' k2 (fun f => f)) h.ne (hnx _ (by omega)) (hnx _ (by omega)) (hnx _ (by omega)) (h.bk.only (ho1.trans ho) (fun f => f)) h.bok (hr.only (ho1.trans ho) (fun _ _ f => f)) hlc (fun y e e2 => ha y e (by rw [e2]; exact h.sb))) (h.bok.shA l x (fun hx => by obtain ⟨h1, h2⟩ := hx; omega)) (fun e => by unfold fnd.shA; rw [if_neg e]) (ch_sh l x (-x) x))
  have HO2 := Lib.hid ho1
  have HXE : Hid (x0 = w.heap.size ∧ x1 = w.heap.size + 1 ∧ x2 = w.heap.size + 2) := Lib.hid (by omega)
  clear h hS hnx hr ha
  go_enter Tryz.func13, Tryz.ntmps13
  go_upto_region 1 with fail
  simp only [← hw1]
  simp only [← hx0]
  try simp only [← hx1]
  try simp only [← hx2]
  clear hw1 hx0 hx1 hx2 hxs ho1
  go_wp2_with fail
  refine HMV.out.mono ?_
  rintro _ w3 hmv
  have HMR := Lib.hid (MvR.frm HO2.out hmv)
  clear HMV
  rcases hmv with ⟨er, hne, rfl, -⟩ | ⟨-, rfl, -⟩
  · go_wp2_with fail
    go_ret
    exact HMR.out
  · go_wp2_with fail
    go_ret
    exact HMR.out
set_option maxRecDepth 100000 in
set_option maxHeartbeats 4000000 in
theorem cpref_any (p pb : Nat) (A : List fnd.Ac) (a : Option Addr) (len cap : Nat) (l : List Int) (x : Int) (x0 x1 x2 : Nat) (z : World) (h0 : z.cell? ⟨p, 0, none⟩ = some (.pointer (some ⟨pb, 0, none⟩))) (h1 : z.cell? ⟨x0, 0, none⟩ = some (.pointer (some ⟨p, 0, none⟩))) (h2 : z.cell? ⟨x1, 0, none⟩ = some (.slice a len cap)) (h3 : z.cell? ⟨x2, 0, none⟩ = some (.int .i64 x)) (hne : p ≠ pb) (hx0 : x0 ≠ pb) (hx1 : x1 ≠ pb) (hx2 : x2 ≠ pb) (hbk : fnd.BkAt z pb A) (hok : fnd.Bok A) (hr : ReadsI z a len l) (hlc : len ≤ cap) (hap : ∀ y, a = some y → y.block ≠ pb) :
    Calls Tryz.prog 46 #[.pointer (some ⟨x0, 0, none⟩), .pointer (some ⟨x1, 0, none⟩), .pointer (some ⟨x2, 0, none⟩)] z (fnd.FDid pb (fnd.shA A l x 0 (-x)) (fnd.shE A l x 0 (-x)) z) := by
  have HCB : Hid (∀ w', Only (fun _ => False) z w' → Calls Tryz.prog 47 #[.pointer (some ⟨pb, 0, none⟩), .slice a len cap, .int .i64 x] w' (fnd.FDid pb (fnd.shA A l x 0 (-x)) (fnd.shE A l x 0 (-x)) w')) := Lib.hid (fun w' ho => fnd.refund_any pb A a len cap l x w' (hbk.only ho (fun f => f)) (hok) (hr.only ho (fun _ _ f => f)) hlc hap)
  have HSL : Hid (∀ w', Only (fun _ => False) z w' → w'.cell? ⟨p, 0, none⟩ = some (.pointer (some ⟨pb, 0, none⟩)) ∧ w'.cell? ⟨x0, 0, none⟩ = some (.pointer (some ⟨p, 0, none⟩)) ∧ w'.cell? ⟨x1, 0, none⟩ = some (.slice a len cap) ∧ w'.cell? ⟨x2, 0, none⟩ = some (.int .i64 x)) := Lib.hid (fun w' ho => ⟨ho.cell' h0 (fun f => f), ho.cell' h1 (fun f => f), ho.cell' h2 (fun f => f), ho.cell' h3 (fun f => f)⟩)
  have HSF : Hid (∀ w', Only (fun _ => False) z w' → ∀ w2, Only (fun q => q = pb) w' w2 → w2.cell? ⟨p, 0, none⟩ = some (.pointer (some ⟨pb, 0, none⟩)) ∧ w2.cell? ⟨x0, 0, none⟩ = some (.pointer (some ⟨p, 0, none⟩)) ∧ w2.cell? ⟨x1, 0, none⟩ = some (.slice a len cap) ∧ w2.cell? ⟨x2, 0, none⟩ = some (.int .i64 x)) := Lib.hid (fun w' ho w2 ho2 => ⟨ho2.cell' (ho.cell' h0 (fun f => f)) hne, ho2.cell' (ho.cell' h1 (fun f => f)) hx0, ho2.cell' (ho.cell' h2 (fun f => f)) hx1, ho2.cell' (ho.cell' h3 (fun f => f)) hx2⟩)
  clear h0 h1 h2 h3 hbk hok hr hap
  go_enter Tryz.func46, Tryz.ntmps46
  go_upto_region 1 with fail
  refine wp_region_noPanic ?_
  refine late.region (fun w' => w'.cell? ⟨p, 0, none⟩ = some (.pointer (some ⟨pb, 0, none⟩)) ∧ w'.cell? ⟨x0, 0, none⟩ = some (.pointer (some ⟨p, 0, none⟩)) ∧ w'.cell? ⟨x1, 0, none⟩ = some (.slice a len cap) ∧ w'.cell? ⟨x2, 0, none⟩ = some (.int .i64 x)) (fun j => [].contains j) (by kernel_rfl) (HSL.out _ (Only.refl _ _).drew) (fun hHeld => ?_)
  obtain ⟨z0, hz0'⟩ : ∃ x, x = z.drew := ⟨_, rfl⟩
  rw [← hz0'] at hHeld ⊢
  have hot : Hid (Only (fun _ => False) z z0) := Lib.hid (by rw [hz0']; exact (Only.refl _ _).drew)
  clear hz0'
  refine sho.lt 0 [1, 2, 3, 6, 7] ?_
  refine sho.lt 1 [2, 3, 6, 7] ?_
  refine sho.lt 2 [3, 6, 7] ?_
  refine sho.lt 3 [6, 7] ?_
  refine sho.lt 4 [6, 7] ?_
  refine sho.lt 5 [6, 7] ?_
  refine late.ready (rs := [6]) (by kernel_rfl) (by simp) ?_
  refine late.Each.cons rfl (fun K hK => ?_) late.Each.nil
  try simp only [List.getElem_toArray, List.getElem_cons_zero, List.getElem_cons_succ]
  go_simp
  go_at_call 47
  with_reducible refine (HCB.out _ hot.out).mono ?_
  rintro _ z1 ⟨rfl, hb, ho⟩
  have HEND : Hid (fnd.FDid pb (fnd.shA A l x 0 (-x)) (fnd.shE A l x 0 (-x)) z (.returned (.int .i64 (fnd.shE A l x 0 (-x)))) z1) := Lib.hid ⟨rfl, hb, (hot.out.mono (fun _ _ f => f.elim)).trans ho⟩
  have HSZ := Lib.hid (HSF.out _ hot.out _ ho)
  clear hb ho hot HCB
  try dsimp only
  refine hK.out _ _ (fun _ => HSZ.out) (fun hHeld1 => ?_)
  replace hHeld1 := hHeld1 rfl
  clear hK K
  try simp only [List.getElem_toArray, List.getElem_cons_zero, List.getElem_cons_succ, Act.put, List.setIfInBounds_toArray, List.set_cons_zero, List.set_cons_succ]
  refine sho.lt 7 [] ?_
  refine late.done (by kernel_rfl) ?_ _
  refine NoPanic.normal ?_
  clear hHeld HSZ HSF HSL
  go_wp2_with fail
  go_ret
  exact HEND.out
set_option maxRecDepth 100000 in
set_option maxHeartbeats 4000000 in
theorem pref_any {S : Nat → Prop} {p pb pj : Nat} {A : List fnd.Ac} {op : Nat} {C : AcC → Option (List Int)} {L : List jnw.Ps} (a : Option Addr) (len cap : Nat) (l : List Int) (x : Int) (gr : Int) (w : World) (h : Pu S w p pb pj A op C L) (hS : ∀ q, S q → q < w.heap.size) (hL : L.length < 16384) (hr : ReadsI w a len l) (hlc : len ≤ cap) (hcm : cap ≤ 9223372036854775807) (ha : ∀ y, a = some y → ¬ S y.block) (hgr : entw.InI gr) :
    Calls Tryz.prog 14 #[.pointer (some ⟨p, 0, none⟩), .slice a len cap, .int .i64 x, .int .i64 gr] w (MvR S w p pb pj A op C L 6 x gr l (fnd.shA A l x 0 (-x)) (fnd.shE A l x 0 (-x))) := by
  obtain ⟨w1, hw1⟩ : ∃ y, y = (((w.alloc (.cells #[.pointer (some ⟨p, 0, none⟩)] 25)).alloc (.cells #[.slice a len cap] 37)).alloc (.cells #[.int .i64 x] 3)) := ⟨_, rfl⟩
  obtain ⟨x0, hx0⟩ : ∃ y, y = w.heap.size := ⟨_, rfl⟩
  obtain ⟨x1, hx1⟩ : ∃ y, y = x0 + 1 := ⟨_, rfl⟩
  obtain ⟨x2, hx2⟩ : ∃ y, y = x1 + 1 := ⟨_, rfl⟩
  have ho1 : Only (fun _ => False) w w1 := by rw [hw1]; exact (((Only.refl _ _).alloc _).alloc _).alloc _
  have k0 : w1.cell? ⟨x0, 0, none⟩ = some (.pointer (some ⟨p, 0, none⟩)) := by rw [hw1]; exact (((Only.refl (fun _ => False) _).alloc _).alloc _).cell' (tre.alloc_cell (w := w) (by simp [hx0]) rfl) (fun f => f)
  have k1 : w1.cell? ⟨x1, 0, none⟩ = some (.slice a len cap) := by rw [hw1]; exact ((Only.refl (fun _ => False) _).alloc _).cell' (tre.alloc_cell (w := (w.alloc (.cells #[.pointer (some ⟨p, 0, none⟩)] 25))) (by simp [hx0, hx1]) rfl) (fun f => f)
  have k2 : w1.cell? ⟨x2, 0, none⟩ = some (.int .i64 x) := by rw [hw1]; exact (Only.refl (fun _ => False) _).cell' (tre.alloc_cell (w := ((w.alloc (.cells #[.pointer (some ⟨p, 0, none⟩)] 25)).alloc (.cells #[.slice a len cap] 37))) (by simp [hx0, hx1, hx2]) rfl) (fun f => f)
  have HP1 := Lib.hid (h.quiet ho1)
  have HO1 := Lib.hid ho1
  have hxs : w.heap.size ≤ x0 := by omega
  have hnx : ∀ i : Nat, w.heap.size ≤ i → i ≠ pb := fun i hi e => by have := h.lt.2; omega
  have HMV := Lib.hid (move_ref 6 x gr hgr a len cap l x0 x1 x2 (fnd.shA A l x 0 (-x)) (fnd.shE A l x 0 (-x)) w1 (h.quiet ho1) (fun q hq => by have := hS q hq; have := ho1.size; omega) hL (hr.only ho1 (fun _ _ f => f)) hlc hcm ha (fun w' ho => cpref_any p pb A a len cap l x x0 x1 x2 w' ((ho1.trans ho).cell' h.c0 (fun f => f)) (ho.cell' k0 (fun f => f)) (ho.cell' k1 (fun f => f)) (ho.cell' k2 (fun f => f)) h.ne (hnx _ (by omega)) (hnx _ (by omega)) (hnx _ (by omega)) (h.bk.only (ho1.trans ho) (fun f => f)) h.bok (hr.only (ho1.trans ho) (fun _ _ f => f)) hlc (fun y e e2 => ha y e (by rw [e2]; exact h.sb))) (h.bok.shA l x (fun hx => by obtain ⟨h1, h2⟩ := hx; omega)) (fun e => by unfold fnd.shA; rw [if_neg e]) (ch_sh l x 0 (-x)))
  have HO2 := Lib.hid ho1
  have HXE : Hid (x0 = w.heap.size ∧ x1 = w.heap.size + 1 ∧ x2 = w.heap.size + 2) := Lib.hid (by omega)
  clear h hS hnx hr ha
  go_enter Tryz.func14, Tryz.ntmps14
  go_upto_region 1 with fail
  simp only [← hw1]
  simp only [← hx0]
  try simp only [← hx1]
  try simp only [← hx2]
  clear hw1 hx0 hx1 hx2 hxs ho1
  go_wp2_with fail
  refine HMV.out.mono ?_
  rintro _ w3 hmv
  have HMR := Lib.hid (MvR.frm HO2.out hmv)
  clear HMV
  rcases hmv with ⟨er, hne, rfl, -⟩ | ⟨-, rfl, -⟩
  · go_wp2_with fail
    go_ret
    exact HMR.out
  · go_wp2_with fail
    go_ret
    exact HMR.out
end Go.Proofs.YtkbaafgaaiekpaaGreat.puw
namespace Go.Proofs.YtkbaafgaaiekpaaGreat.puw
open Go.RowKit mem entm
set_option linter.unusedVariables false

theorem perm_two {x y : Lg} {ls : List Lg} (h : ls.Perm [x, y]) (hs : entw.Sorted ls) (hxy : ltA x y) : ls = [x, y] := by
  match ls, h, hs with
  | [], h, _ => have := h.length_eq; simp at this
  | [a], h, _ => have := h.length_eq; simp at this
  | [a, b], h, hs =>
    have h1 : ¬ ltA b a := by
      unfold entw.Sorted at hs
      rw [List.pairwise_cons] at hs
      exact hs.1 b (by simp)
    have ha : a = x ∨ a = y := by have := h.mem_iff (a := a); simp at this; exact this
    have hb : b = x ∨ b = y := by have := h.mem_iff (a := b); simp at this; exact this
    have hx : x = a ∨ x = b := by have := h.mem_iff (a := x); simp at this; exact this
    have hy : y = a ∨ y = b := by have := h.mem_iff (a := y); simp at this; exact this
    rcases ha with rfl | rfl
    · rcases hy with e | rfl
      · rcases hb with rfl | rfl
        · rw [e]
        · rfl
      · rfl
    · rcases hx with e | rfl
      · exact absurd (e ▸ hxy) (ltA_irrefl _)
      · exact absurd hxy h1
  | a :: b :: c :: r, h, _ => have := h.length_eq; simp at this
structure Good (kind m gr : Int) (path : List Int) : Prop where
  k : 1 ≤ kind ∧ kind ≤ 6
  m : 1 ≤ m ∧ m ≤ 9007199254740992
  nd : path.Nodup
  len : 1 ≤ path.length ∧ path.length ≤ 3
  ok : ∀ n ∈ path, 1 ≤ n ∧ n ≤ 32
  one : kind = 1 ∨ kind = 5 → path.length = 1
  g : kind = 4 ∨ kind = 6 → 1 ≤ gr ∧ gr ≤ 8
theorem Good.mk0 {kind m gr : Int} {path : List Int} (h : Good kind m gr path) : entw.mkNo kind m path = 0 := by
  have hk : kindB kind = true := by have := h.k; unfold kindB; simp; omega
  have hp : entw.pathB path = true := by unfold entw.pathB; exact decide_eq_true ⟨h.len.1, h.len.2, h.nd⟩
  unfold entw.mkNo
  rw [if_neg (by rw [hk]; simp), if_neg]
  rintro (e | e)
  · exact e h.m
  · rw [hp] at e; cases e
theorem one_of {l : List Int} (h : l.length = 1) : ∃ n, l = [n] := by
  match l, h with
  | [n], _ => exact ⟨n, rfl⟩
theorem raw1 (m gr n : Int) : rawL 1 m gr [n] = [⟨1, 0, 0, m⟩, ⟨2, n, 0, -m⟩] := by
  show [⟨1, 0, 0, m * 1⟩, (⟨2, n, 0, -m⟩ : Lg)] = _
  rw [Int.mul_one]
theorem raw5 (m gr n : Int) : rawL 5 m gr [n] = [⟨2, n, 0, m⟩, ⟨5, n, 0, -m⟩] := rfl
theorem two_chk {k : Int} {x y : Lg} (hk : 1 ≤ k ∧ k ≤ 6) (hx : accB x = true) (hy : accB y = true) (ax : amtB x.a = true) (ay : amtB y.a = true) (hs : x.a + y.a = 0) (hl : ltA x y) : chk k [x, y] = 0 := by
  refine (chk_ok k _).2 ⟨by unfold kindB; simp; omega, by simp, fun l hl => ?_, by simp; omega, ?_⟩
  · simp at hl
    rcases hl with rfl | rfl
    · exact ⟨hx, ax⟩
    · exact ⟨hy, ay⟩
  · rw [List.pairwise_cons, List.pairwise_cons]
    exact ⟨fun z hz => by simp at hz; rw [hz]; exact hl, (fun z hz => by cases hz), List.Pairwise.nil⟩
theorem Good.chk0 {kind m gr : Int} {path : List Int} (h : Good kind m gr path) {ls : List Lg} (hp : ls.Perm (rawL kind m gr path)) (hs : entw.Sorted ls) : chk kind ls = 0 := by
  obtain ⟨a1, a2⟩ := amt_of h.m.1 h.m.2
  by_cases k1 : kind = 1
  · obtain ⟨n, rfl⟩ := one_of (h.one (.inl k1))
    have hn := h.ok n (by simp)
    rw [k1, raw1] at hp
    rw [perm_two hp hs (by unfold ltA; simp), k1]
    exact two_chk (by omega) (by unfold accB; simp) (by unfold accB nodeB; simp; omega) a1 a2 (by simp; omega) (by unfold ltA; simp)
  · by_cases k5 : kind = 5
    · obtain ⟨n, rfl⟩ := one_of (h.one (.inr k5))
      have hn := h.ok n (by simp)
      rw [k5, raw5] at hp
      rw [perm_two hp hs (by unfold ltA; simp), k5]
      exact two_chk (by omega) (by unfold accB nodeB; simp; omega) (by unfold accB nodeB; simp; omega) a1 a2 (by simp; omega) (by unfold ltA; simp)
    · have hk : isK kind := by have := h.k; unfold isK; omega
      rw [raw_chk hk h.m.1 h.m.2 h.nd ⟨h.len.1, by have := h.len.2; omega⟩ hp hs (entw.raw_one), if_pos]
      refine ⟨h.ok, ?_⟩
      unfold okG
      by_cases e : kind = 4 ∨ kind = 6
      · exact .inr (.inr (h.g e))
      · have := h.k; omega
theorem Good.no {kind m gr : Int} {path : List Int} (h : Good kind m gr path) {C : AcC → Option (List Int)} {B : Int} (hB : jnw.Bnd C B) (hb : B + 9007199254740992 ≤ 1152921504606846976) {er : Int} (hn : PoNo C kind m gr path er) : er = 0 := by
  rcases hn with rfl | ⟨_, ls, h1, h2, ⟨h3, _⟩ | ⟨h3, rfl⟩⟩
  · exact h.mk0
  · exact absurd (h.chk0 h1 h2) h3
  · exact hB.none hb h3
theorem atA_raw {k m g : Int} (hk : ¬ k = 1) (a : AcC) : ∀ p : List Int, p.Nodup → jnw.atA a (rawN k m g p) = if a.n ∈ p then (if jnw.lgA (debL k m a.n g) = a then m else 0) + (if jnw.lgA (creL k m a.n g) = a then -m else 0) else 0
  | [], _ => by rw [if_neg (by simp)]; rfl
  | n :: r, hn => by
    rw [List.nodup_cons] at hn
    have e : jnw.atA a (rawN k m g (n :: r)) = ((if jnw.lgA (debL k m n g) = a then m else 0) + (if jnw.lgA (creL k m n g) = a then -m else 0)) + jnw.atA a (rawN k m g r) := by
      have e1 : rawN k m g (n :: r) = debL k m n g :: creL k m n g :: rawN k m g r := by
        rw [rawN_cons]; unfold nodeL; rw [if_neg hk]; rfl
      rw [e1, jnw.atA_cons, jnw.atA_cons, debL_a, creL_a]
      omega
    rw [e, atA_raw hk a r hn.2]
    by_cases en : a.n = n
    · subst en
      rw [if_pos (show a.n ∈ a.n :: r by simp), if_neg hn.1]
      omega
    · have d1 : ¬ jnw.lgA (debL k m n g) = a := fun e => en (by rw [← e]; exact deb_n hk)
      have d2 : ¬ jnw.lgA (creL k m n g) = a := fun e => en (by rw [← e]; exact cre_n)
      rw [if_neg d1, if_neg d2]
      by_cases em : a.n ∈ r
      · rw [if_pos em, if_pos (show a.n ∈ n :: r by simp [em])]; omega
      · rw [if_neg em, if_neg (show ¬ a.n ∈ n :: r by simp [em, en])]; omega
theorem yes_at {C : AcC → Option (List Int)} {k m g : Int} {path : List Int} {ls : List Lg} (h : PoYes C k m g path ls) (hk : ¬ k = 1) (hn : path.Nodup) (a : AcC) : jnw.atA a ls = if a.n ∈ path then (if jnw.lgA (debL k m a.n g) = a then m else 0) + (if jnw.lgA (creL k m a.n g) = a then -m else 0) else 0 := by
  rw [← atA_raw hk a path hn, ← rawL_ne hk]
  exact atS_perm _ _ _ h.2.1
theorem yes_at1 {C : AcC → Option (List Int)} {m g n : Int} {ls : List Lg} (h : PoYes C 1 m g [n] ls) (a : AcC) : jnw.atA a ls = (if a = ⟨1, 0, 0⟩ then m else 0) + (if a = ⟨2, n, 0⟩ then -m else 0) := by
  have e : jnw.atA a ls = jnw.atA a (rawL 1 m g [n]) := atS_perm _ _ _ h.2.1
  rw [e, raw1, jnw.atA_cons, jnw.atA_cons]
  have z : jnw.atA a [] = 0 := rfl
  have e1 : (jnw.lgA ⟨1, 0, 0, m⟩ = a) = (a = ⟨1, 0, 0⟩) := propext ⟨fun h => h.symm, fun h => h.symm⟩
  have e2 : (jnw.lgA ⟨2, n, 0, -m⟩ = a) = (a = ⟨2, n, 0⟩) := propext ⟨fun h => h.symm, fun h => h.symm⟩
  rw [z]
  simp only [e1, e2]
  omega
theorem MvR.good {S : Nat → Prop} {w w' : World} {p pb pj : Nat} {A A' : List fnd.Ac} {op : Nat} {C : AcC → Option (List Int)} {L : List jnw.Ps} {kind m gr E : Int} {path : List Int} {e : Ending} (h : MvR S w p pb pj A op C L kind m gr path A' E e w') {B : Int} (hB : jnw.Bnd C B) (hb : B + 9007199254740992 ≤ 1152921504606846976) (hg : E = 0 → Good kind m gr path) :
    e = .returned (.int .i64 E) ∧ Only S w w' ∧ ((E ≠ 0 ∧ Pu S w' p pb pj A op C L) ∨ (E = 0 ∧ ∃ (ls : List Lg) (x : jnw.Ps), PoYes C kind m gr path ls ∧ x.ls = ls ∧ x.kd = kind ∧ x.per = op ∧ Pu (fun q => S q ∨ w.heap.size ≤ q) w' p pb pj A' op (jnw.addC C op ls) (L ++ [x]) ∧ jnw.Bnd (jnw.addC C op ls) (B + 9007199254740992))) := by
  rcases h with ⟨er, h1, rfl, h3, h4, h5⟩ | ⟨h1, rfl, ls, x, h3, h4, h5, h6, h7, h8⟩
  · rcases h5 with rfl | ⟨hE, hno⟩
    · exact ⟨rfl, h4, .inl ⟨h1, h3⟩⟩
    · exact absurd ((hg hE).no hB hb hno) h1
  · exact ⟨by rw [h1], h8, .inr ⟨h1, ls, x, h3, h4, h5, h6, h7, hB.add (by omega) h7.opl h3.2.2.2.1⟩⟩
end Go.Proofs.YtkbaafgaaiekpaaGreat.puw
namespace Go.Proofs.YtkbaafgaaiekpaaGreat.puw
open Go.RowKit mem
set_option linter.unusedVariables false

structure Pv (S : Nat → Prop) (w : World) (p pb pj : Nat) (A : List fnd.Ac) (n op : Nat) (C : AcC → Option (List Int)) (L : List jnw.Ps) : Prop where
  pu : Pu S w p pb pj A op C L
  bd : jnw.Bnd C (9007199254740992 * (n : Int))
  ln : L.length ≤ 64 * n
  lt : ∀ q, S q → q < w.heap.size
theorem Pv.only {S T : Nat → Prop} {w w' : World} {p pb pj : Nat} {A : List fnd.Ac} {n op : Nat} {C : AcC → Option (List Int)} {L : List jnw.Ps} (h : Pv S w p pb pj A n op C L) (ho : Only T w w') (hT : ∀ q, S q → ¬ T q) : Pv S w' p pb pj A n op C L :=
  ⟨h.pu.only ho hT, h.bd, h.ln, fun q hq => by have := h.lt q hq; have := ho.size; omega⟩
theorem Pv.quiet {S : Nat → Prop} {w w' : World} {p pb pj : Nat} {A : List fnd.Ac} {n op : Nat} {C : AcC → Option (List Int)} {L : List jnw.Ps} (h : Pv S w p pb pj A n op C L) (ho : Only (fun _ => False) w w') : Pv S w' p pb pj A n op C L := h.only ho (fun _ _ f => f)
theorem Pv.up {S : Nat → Prop} {w : World} {p pb pj : Nat} {A : List fnd.Ac} {n m op : Nat} {C : AcC → Option (List Int)} {L : List jnw.Ps} (h : Pv S w p pb pj A n op C L) (hm : n ≤ m) : Pv S w p pb pj A m op C L :=
  ⟨h.pu, h.bd.mono (by omega), by have := h.ln; omega, h.lt⟩
def PvR (S : Nat → Prop) (w : World) (p pb pj : Nat) (n op : Nat) (C : AcC → Option (List Int)) (L : List jnw.Ps) (kind m gr : Int) (path : List Int) (A' : List fnd.Ac) (E : Int) (e : Ending) (w' : World) : Prop :=
  e = .returned (.int .i64 E) ∧ Only S w w' ∧ ∃ (S' : Nat → Prop) (C' : AcC → Option (List Int)) (L' : List jnw.Ps), (∀ q, S' q → S q ∨ w.heap.size ≤ q) ∧ Pv S' w' p pb pj A' (n + 1) op C' L' ∧ ((E ≠ 0 ∧ C' = C ∧ L' = L) ∨ (E = 0 ∧ ∃ ls x, PoYes C kind m gr path ls ∧ C' = jnw.addC C op ls ∧ L' = L ++ [x] ∧ x.ls = ls ∧ x.kd = kind ∧ x.per = op))
theorem Pv.step {S : Nat → Prop} {w w' : World} {p pb pj : Nat} {A A' : List fnd.Ac} {n op : Nat} {C : AcC → Option (List Int)} {L : List jnw.Ps} {kind m gr E : Int} {path : List Int} {e : Ending} (h : Pv S w p pb pj A n op C L) (hn : n ≤ 126) (hm : MvR S w p pb pj A op C L kind m gr path A' E e w') (hA : E ≠ 0 → A' = A) (hg : E = 0 → Good kind m gr path) : PvR S w p pb pj n op C L kind m gr path A' E e w' := by
  obtain ⟨h1, h2, h3⟩ := hm.good h.bd (by omega) hg
  have hs := h2.size
  refine ⟨h1, h2, ?_⟩
  rcases h3 with ⟨hE, hp⟩ | ⟨hE, ls, x, h3, h4, h5, h6, h7, h8⟩
  · refine ⟨S, C, L, fun q hq => .inl hq, ⟨by rw [hA hE]; exact hp, h.bd.mono (by omega), by have := h.ln; omega, fun q hq => by have := h.lt q hq; omega⟩, .inl ⟨hE, rfl, rfl⟩⟩
  · refine ⟨fun q => (S q ∨ w.heap.size ≤ q) ∧ q < w'.heap.size, _, _, fun q hq => hq.1, ⟨h7.mono (fun q hq hh => ⟨hh, hq⟩), h8.mono (by omega), by rw [List.length_append]; have := h.ln; simp; omega, fun q hq => hq.2⟩, .inr ⟨hE, ls, x, h3, rfl, rfl, h4, h5, h6⟩⟩
theorem good_top {A : List fnd.Ac} (hA : A.length = 33) {k x : Int} (h : fnd.topE A k x = 0) : Good 1 x 0 [k] := by
  have hn : fnd.NodeOk k ∧ fnd.AmtOk x := by
    unfold fnd.topE at h
    by_cases e : fnd.NodeOk k ∧ fnd.AmtOk x
    · exact e
    · rw [if_neg e] at h; exact absurd h (by decide)
  obtain ⟨⟨h1, h2⟩, h3, h4⟩ := hn
  exact ⟨by omega, ⟨h3, h4⟩, by simp, by simp, fun m hm => by rw [List.mem_singleton] at hm; rw [hm]; exact ⟨h1, h2⟩, fun _ => rfl, fun h => by omega⟩
theorem good_path {k x gr : Int} {l : List Int} (hk : 1 ≤ k ∧ k ≤ 6) (hk2 : ¬ (k = 1 ∨ k = 5)) (hg : k = 4 ∨ k = 6 → 1 ≤ gr ∧ gr ≤ 8) (hp : fnd.PathOk l) (hx : fnd.AmtOk x) : Good k x gr l := by
  obtain ⟨h1, h2⟩ := path_nodes hp
  exact ⟨hk, hx, hp.nodup, hp.1, fun n hn => h2 n hn, fun h => absurd h hk2, hg⟩
theorem good_hold {A : List fnd.Ac} {l ls : List Int} {x : Int} (h : fnd.holdE A l ls x = 0) : Good 2 x 0 l := by
  have hp : (fnd.PathOk l ∧ ls.length = l.length ∧ fnd.LOk ls ls.length) ∧ fnd.AmtOk x := by
    unfold fnd.holdE at h
    by_cases e : (fnd.PathOk l ∧ ls.length = l.length ∧ fnd.LOk ls ls.length) ∧ fnd.AmtOk x
    · exact e
    · rw [if_neg e] at h; exact absurd h (by decide)
  exact good_path (by omega) (by omega) (fun h => by omega) hp.1.1 hp.2
theorem good_sh {A : List fnd.Ac} {l : List Int} {k x gr dh du : Int} (hk : 1 ≤ k ∧ k ≤ 6) (hk2 : ¬ (k = 1 ∨ k = 5)) (hg : k = 4 ∨ k = 6 → 1 ≤ gr ∧ gr ≤ 8) (h : fnd.shE A l x dh du = 0) : Good k x gr l := by
  have hp : fnd.PathOk l ∧ fnd.AmtOk x := by
    unfold fnd.shE at h
    by_cases e : fnd.PathOk l ∧ fnd.AmtOk x
    · exact e
    · rw [if_neg e] at h; exact absurd h (by decide)
  exact good_path hk hk2 hg hp.1 hp.2
theorem Pv.top {S : Nat → Prop} {w : World} {p pb pj : Nat} {A : List fnd.Ac} {n op : Nat} {C : AcC → Option (List Int)} {L : List jnw.Ps} (h : Pv S w p pb pj A n op C L) (hn : n ≤ 126) (k x : Int) (hk : entw.InI k) :
    Calls Tryz.prog 10 #[.pointer (some ⟨p, 0, none⟩), .int .i64 k, .int .i64 x] w (PvR S w p pb pj n op C L 1 x 0 [k] (fnd.topA A k x) (fnd.topE A k x)) :=
  (ptop_any k x w h.pu h.lt (by have := h.ln; omega) hk).mono (fun e w' hm => h.step hn hm (fun e => by unfold fnd.topA; rw [if_neg e]) (good_top h.pu.bok.len))
theorem Pv.hold {S : Nat → Prop} {w : World} {p pb pj : Nat} {A : List fnd.Ac} {n op : Nat} {C : AcC → Option (List Int)} {L : List jnw.Ps} (h : Pv S w p pb pj A n op C L) (hn : n ≤ 126) (a : Option Addr) (len cap : Nat) (l : List Int) (a2 : Option Addr) (m2 c2 : Nat) (ls : List Int) (x : Int) (hr : ReadsI w a len l) (hlc : len ≤ cap) (hcm : cap ≤ 9223372036854775807) (hr2 : ReadsI w a2 m2 ls) (ha : ∀ y, a = some y → ¬ S y.block) :
    Calls Tryz.prog 11 #[.pointer (some ⟨p, 0, none⟩), .slice a len cap, .slice a2 m2 c2, .int .i64 x] w (PvR S w p pb pj n op C L 2 x 0 l (fnd.holdA A l ls x) (fnd.holdE A l ls x)) :=
  (phold_any a len cap l a2 m2 c2 ls x w h.pu h.lt (by have := h.ln; omega) hr hlc hcm hr2 ha).mono (fun e w' hm => h.step hn hm (fun e => by unfold fnd.holdA; rw [if_neg e]) (good_hold))
theorem Pv.rel {S : Nat → Prop} {w : World} {p pb pj : Nat} {A : List fnd.Ac} {n op : Nat} {C : AcC → Option (List Int)} {L : List jnw.Ps} (h : Pv S w p pb pj A n op C L) (hn : n ≤ 126) (a : Option Addr) (len cap : Nat) (l : List Int) (x : Int) (hr : ReadsI w a len l) (hlc : len ≤ cap) (hcm : cap ≤ 9223372036854775807) (ha : ∀ y, a = some y → ¬ S y.block) :
    Calls Tryz.prog 12 #[.pointer (some ⟨p, 0, none⟩), .slice a len cap, .int .i64 x] w (PvR S w p pb pj n op C L 3 x 0 l (fnd.shA A l x (-x) 0) (fnd.shE A l x (-x) 0)) :=
  (prel_any a len cap l x w h.pu h.lt (by have := h.ln; omega) hr hlc hcm ha).mono (fun e w' hm => h.step hn hm (fun e => by unfold fnd.shA; rw [if_neg e]) (good_sh (by omega) (by omega) (fun h => by omega)))
theorem Pv.com {S : Nat → Prop} {w : World} {p pb pj : Nat} {A : List fnd.Ac} {n op : Nat} {C : AcC → Option (List Int)} {L : List jnw.Ps} (h : Pv S w p pb pj A n op C L) (hn : n ≤ 126) (a : Option Addr) (len cap : Nat) (l : List Int) (x : Int) (gr : Int) (hg : 1 ≤ gr ∧ gr ≤ 8) (hr : ReadsI w a len l) (hlc : len ≤ cap) (hcm : cap ≤ 9223372036854775807) (ha : ∀ y, a = some y → ¬ S y.block) :
    Calls Tryz.prog 13 #[.pointer (some ⟨p, 0, none⟩), .slice a len cap, .int .i64 x, .int .i64 gr] w (PvR S w p pb pj n op C L 4 x gr l (fnd.shA A l x (-x) x) (fnd.shE A l x (-x) x)) :=
  (pcom_any a len cap l x gr w h.pu h.lt (by have := h.ln; omega) hr hlc hcm ha (by unfold entw.InI; omega)).mono (fun e w' hm => h.step hn hm (fun e => by unfold fnd.shA; rw [if_neg e]) (good_sh (by omega) (by omega) (fun _ => hg)))
theorem Pv.ref {S : Nat → Prop} {w : World} {p pb pj : Nat} {A : List fnd.Ac} {n op : Nat} {C : AcC → Option (List Int)} {L : List jnw.Ps} (h : Pv S w p pb pj A n op C L) (hn : n ≤ 126) (a : Option Addr) (len cap : Nat) (l : List Int) (x : Int) (gr : Int) (hg : 1 ≤ gr ∧ gr ≤ 8) (hr : ReadsI w a len l) (hlc : len ≤ cap) (hcm : cap ≤ 9223372036854775807) (ha : ∀ y, a = some y → ¬ S y.block) :
    Calls Tryz.prog 14 #[.pointer (some ⟨p, 0, none⟩), .slice a len cap, .int .i64 x, .int .i64 gr] w (PvR S w p pb pj n op C L 6 x gr l (fnd.shA A l x 0 (-x)) (fnd.shE A l x 0 (-x))) :=
  (pref_any a len cap l x gr w h.pu h.lt (by have := h.ln; omega) hr hlc hcm ha (by unfold entw.InI; omega)).mono (fun e w' hm => h.step hn hm (fun e => by unfold fnd.shA; rw [if_neg e]) (good_sh (by omega) (by omega) (fun _ => hg)))
theorem Pv.bal {S : Nat → Prop} {w : World} {p pb pj : Nat} {A : List fnd.Ac} {n op : Nat} {C : AcC → Option (List Int)} {L : List jnw.Ps} (h : Pv S w p pb pj A n op C L) (hn : n ≤ 127) (k m g : Int) (ha : accn.InA ⟨k, m, g⟩) :
    Calls Tryz.prog 24 #[.pointer (some ⟨pj, 0, none⟩), .agg #[.int .i64 k, .int .i64 m, .int .i64 g]] w fun e w' => e = .returned (.int .i64 (jnw.ror C ⟨k, m, g⟩).sum) ∧ Only (fun _ => False) w w' := by
  obtain ⟨v, mm, nn, hj⟩ := h.pu.jn
  refine (jnw.bal_any pj op v mm nn C k m g ha w hj.jc hj.mp).mono ?_
  rintro _ w' ⟨rfl, ho⟩
  have hb := (h.bd ⟨k, m, g⟩).2.1
  have e : wrap64 (((C ⟨k, m, g⟩).getD accn.noughts).sum) = (jnw.ror C ⟨k, m, g⟩).sum := by
    show wrap64 (jnw.ror C ⟨k, m, g⟩).sum = _
    unfold wrap64
    omega
  rw [e]
  exact ⟨rfl, ho⟩
end Go.Proofs.YtkbaafgaaiekpaaGreat.puw
namespace Go.Proofs.YtkbaafgaaiekpaaGreat.puw
open Go.RowKit mem
set_option linter.unusedVariables false

theorem read1 (w : World) (t : TypeId) (x : Int) (hx : entw.InI x) {w1 : World} {g : Nat} (hw : w1 = w.alloc (.cells #[.int .i64 x] t)) (hg : g = w.heap.size) : ReadsI w1 (some ⟨g, 0, none⟩) 1 [x] :=
  ⟨rfl, by unfold maxLen; omega, fun c hc => by rw [List.mem_singleton] at hc; rw [hc]; exact hx, .inr ⟨g, 0, rfl, fun i hi => by
    obtain rfl : i = 0 := by omega
    rw [hw]; exact tre.alloc_cell hg rfl⟩⟩
theorem inA_small (k m g : Int) (h : (-1000 ≤ k ∧ k ≤ 1000) ∧ (-1000 ≤ m ∧ m ≤ 1000) ∧ (-1000 ≤ g ∧ g ≤ 1000)) : accn.InA ⟨k, m, g⟩ := by
  obtain ⟨⟨a, b⟩, ⟨c, d⟩, e, f⟩ := h
  refine ⟨?_, ?_, ?_⟩ <;> (unfold accm.I64; dsimp only; omega)
theorem in_small (x : Int) (h : -1000000 ≤ x ∧ x ≤ 1000000) : entw.InI x := by unfold entw.InI; omega
theorem pnew_v {w w1 : World} {p pb pj : Nat} (h : Pu (fun q => w.heap.size ≤ q) w1 p pb pj fnd.A0 0 (fun _ => none) []) : Pv (fun q => w.heap.size ≤ q ∧ q < w1.heap.size) w1 p pb pj fnd.A0 0 0 (fun _ => none) [] :=
  ⟨h.mono (fun q hq hh => ⟨hh, hq⟩), jnw.Bnd.nil.mono (by omega), Nat.le_refl _, fun q hq => hq.2⟩
def aA1 : List fnd.Ac := fnd.topA fnd.A0 1 9
def aA2 : List fnd.Ac := fnd.holdA aA1 [1] [-1] 4
def aA3 : List fnd.Ac := fnd.shA aA2 [1] 3 (-3) 3
theorem aE1 : fnd.topE fnd.A0 1 9 = 0 := by kernel_rfl
theorem aE2 : fnd.holdE aA1 [1] [-1] 4 = 0 := by kernel_rfl
theorem aE3 : fnd.shE aA2 [1] 3 (-3) 3 = 0 := by kernel_rfl
theorem aL : fnd.left (fnd.acG aA3 1) = 5 := by kernel_rfl
theorem aG : fnd.acG aA3 1 = ⟨9, 0, 0, 3, 1⟩ := by kernel_rfl
theorem none_sum (a : AcC) : (jnw.ror (fun _ => none) a).sum = 0 := by show accn.noughts.sum = 0; decide
set_option maxRecDepth 100000 in
set_option maxHeartbeats 4000000 in
theorem purses_any (w : World) : Calls Tryz.prog 9 #[] w fun e w' => e = .returned (.bool true) ∧ Only (fun _ => False) w w' := by
  go_enter Tryz.func9, Tryz.ntmps9
  go_wp2_with fail
  refine (pnew_any w).mono ?_
  rintro _ w1 ⟨p, pb, pj, rfl, hp1, ho1⟩
  have HV1 := Lib.hid (pnew_v hp1)
  have HO1 := Lib.hid ho1
  have HT := HV1.out.top (by omega) 1 9 (in_small 1 (by omega))
  rw [aE1] at HT
  have HT := Lib.hid HT
  clear hp1 ho1
  go_wp2_with fail
  refine HT.out.mono ?_
  rintro _ w2 ⟨rfl, ho2, S2, C2, L2, hs2, hv2, hc2⟩
  obtain ⟨ls2, x2, hy2, hC2, -⟩ : ∃ ls x, PoYes (fun _ => none) 1 9 0 [1] ls ∧ C2 = jnw.addC (fun _ => none) 0 ls ∧ L2 = [] ++ [x] := by
    rcases hc2 with ⟨h, _⟩ | ⟨_, ls, x, h1, h2, h3, _⟩
    · exact absurd rfl h
    · exact ⟨ls, x, h1, h2, h3⟩
  have HV2 : Hid (Pv S2 w2 p pb pj aA1 1 0 C2 L2) := Lib.hid hv2
  have HS2 : Hid (∀ q, S2 q → w.heap.size ≤ q) := Lib.hid (fun q hq => by rcases hs2 q hq with h | h; exact h.1; have := HO1.out.size; omega)
  have HO2 : Hid (Only (fun _ => False) w w2) := Lib.hid (HO1.out.then ho2 (fun q hq s => by have := s.1; omega))
  have HY2 := Lib.hid hy2
  have HC2 := Lib.hid hC2
  obtain ⟨w3, hw3⟩ : ∃ y, y = (w2.alloc (.cells #[.int .i64 1] 3)).alloc (.cells #[.int .i64 (-1)] 3) := ⟨_, rfl⟩
  obtain ⟨g3, hg3⟩ : ∃ y, y = w2.heap.size := ⟨_, rfl⟩
  obtain ⟨g4, hg4⟩ : ∃ y, y = g3 + 1 := ⟨_, rfl⟩
  have ho3 : Only (fun _ => False) w2 w3 := by rw [hw3]; exact ((Only.refl _ _).alloc _).alloc _
  have hr3 : ReadsI w3 (some ⟨g3, 0, none⟩) 1 [1] := (read1 w2 3 1 (in_small 1 (by omega)) rfl hg3).only (S := fun _ => False) (by rw [hw3]; exact (Only.refl _ _).alloc _) (fun _ _ f => f)
  have hr4 : ReadsI w3 (some ⟨g4, 0, none⟩) 1 [-1] := read1 (w2.alloc (.cells #[.int .i64 1] 3)) 3 (-1) (in_small (-1) (by omega)) hw3 (by simp [hg4, hg3])
  have HH := (HV2.out.quiet ho3).hold (by omega) (some ⟨g3, 0, none⟩) 1 1 [1] (some ⟨g4, 0, none⟩) 1 1 [-1] 4 hr3 (by omega) (by omega) hr4 (fun y e s => by injection e with e; have h1 := HV2.out.lt _ s; rw [← e] at h1; have h1 : g3 < w2.heap.size := h1; omega)
  rw [aE2] at HH
  have HH := Lib.hid HH
  have HO3 : Hid (Only (fun _ => False) w w3) := Lib.hid (HO2.out.trans ho3)
  clear hs2 hv2 hc2 hy2 hC2 ho2 ho3 hr3 hr4 HT
  go_wp2_with fail
  try simp only [← hg3]
  try simp only [← hw3, ← hg4]
  refine (show Calls Tryz.prog 11 #[.pointer (some ⟨p, 0, none⟩), .slice (some ⟨g3, 0, none⟩) 1 1, .slice (some ⟨g4, 0, none⟩) 1 1, .int .i64 4] w3 _ from HH.out).mono ?_
  rintro _ w5 ⟨rfl, ho5, S5, C5, L5, hs5, hv5, hc5⟩
  obtain ⟨ls5, x5, hy5, hC5, -⟩ : ∃ ls x, PoYes C2 2 4 0 [1] ls ∧ C5 = jnw.addC C2 0 ls ∧ L5 = L2 ++ [x] := by
    rcases hc5 with ⟨h, _⟩ | ⟨_, ls, x, h1, h2, h3, _⟩
    · exact absurd rfl h
    · exact ⟨ls, x, h1, h2, h3⟩
  have HV5 : Hid (Pv S5 w5 p pb pj aA2 2 0 C5 L5) := Lib.hid hv5
  have HS5 : Hid (∀ q, S5 q → w.heap.size ≤ q) := Lib.hid (fun q hq => by rcases hs5 q hq with h | h; exact HS2.out q h; have := HO3.out.size; omega)
  have HO5 : Hid (Only (fun _ => False) w w5) := Lib.hid (HO3.out.then ho5 (fun q hq s => by have := HS2.out q s; omega))
  have HY5 := Lib.hid hy5
  have HC5 := Lib.hid hC5
  obtain ⟨w6, hw6⟩ : ∃ y, y = w5.alloc (.cells #[.int .i64 1] 3) := ⟨_, rfl⟩
  obtain ⟨g6, hg6⟩ : ∃ y, y = w5.heap.size := ⟨_, rfl⟩
  have ho6 : Only (fun _ => False) w5 w6 := by rw [hw6]; exact (Only.refl _ _).alloc _
  have HCM := (HV5.out.quiet ho6).com (by omega) (some ⟨g6, 0, none⟩) 1 1 [1] 3 2 (by omega) (read1 w5 3 1 (in_small 1 (by omega)) hw6 hg6) (by omega) (by omega) (fun y e s => by injection e with e; have h1 := HV5.out.lt _ s; rw [← e] at h1; have h1 : g6 < w5.heap.size := h1; omega)
  rw [aE3] at HCM
  have HCM := Lib.hid HCM
  have HO6 : Hid (Only (fun _ => False) w w6) := Lib.hid (HO5.out.trans ho6)
  clear hs5 hv5 hc5 hy5 hC5 ho5 ho6 HH hw3 hg3 hg4
  go_wp2_with fail
  try simp only [← hw6, ← hg6]
  refine (show Calls Tryz.prog 13 #[.pointer (some ⟨p, 0, none⟩), .slice (some ⟨g6, 0, none⟩) 1 1, .int .i64 3, .int .i64 2] w6 _ from HCM.out).mono ?_
  rintro _ w7 ⟨rfl, ho7, S7, C7, L7, hs7, hv7, hc7⟩
  obtain ⟨ls7, x7, hy7, hC7, -⟩ : ∃ ls x, PoYes C5 4 3 2 [1] ls ∧ C7 = jnw.addC C5 0 ls ∧ L7 = L5 ++ [x] := by
    rcases hc7 with ⟨h, _⟩ | ⟨_, ls, x, h1, h2, h3, _⟩
    · exact absurd rfl h
    · exact ⟨ls, x, h1, h2, h3⟩
  have HV7 : Hid (Pv S7 w7 p pb pj aA3 3 0 C7 L7) := Lib.hid hv7
  have HO7 : Hid (Only (fun _ => False) w w7) := Lib.hid (HO6.out.then ho7 (fun q hq s => by have := HS5.out q s; omega))
  have hsum : (jnw.ror C7 ⟨4, 1, 2⟩).sum = -3 := by
    rw [hC7, HV5.out.bd.sum (by omega) (by omega) hy7.2.2.2.1, HC5.out, HV2.out.bd.sum (by omega) (by omega) HY5.out.2.2.2.1, HC2.out, jnw.Bnd.nil.sum (by omega) (by omega) HY2.out.2.2.2.1, none_sum, yes_at1 HY2.out, yes_at HY5.out (by omega) (by simp), yes_at hy7 (by omega) (by simp)]
    decide
  have HB := Lib.hid (fun w' (ho : Only (fun _ => False) w7 w') => (HV7.out.quiet ho).bal (by omega) 4 1 2 (inA_small 4 1 2 (by omega)))
  rw [hsum] at HB
  have HA := Lib.hid (pavail_any 1 w7 HV7.out.pu)
  rw [aL] at HA
  have HG := Lib.hid (fun w' (ho : Only (fun _ => False) w7 w') => pget_any 1 w' (HV7.out.pu.quiet ho))
  rw [aG] at HG
  unfold fnd.aggA at HG
  dsimp only at HG
  have HJ := Lib.hid (fun w' (ho : Only (fun _ => False) w7 w') => pjour_any w' (HV7.out.pu.quiet ho))
  have hcmp := fun w' => fnd.ac_cmp ⟨9, 0, 0, 3, 1⟩ ⟨9, 0, 0, 3, 1⟩ (fnd.right_ins (by decide)) (fnd.right_ins (by decide)) w'
  simp only [fnd.aggA, decide_true] at hcmp
  clear hs7 hv7 hc7 hy7 hC7 ho7 HCM hw6 hg6 hsum
  go_wp2_with fail
  refine HA.out.mono ?_
  rintro _ w8 ⟨rfl, ho8⟩
  have HO8 := Lib.hid ho8
  clear ho8 HA
  go_wp2_with fail
  refine (HG.out w8 HO8.out).mono ?_
  rintro _ w9 ⟨rfl, ho9⟩
  have HO9 := Lib.hid (HO8.out.trans ho9)
  clear ho9 HG
  go_wp2_with fail
  refine (HJ.out w9 HO9.out).mono ?_
  rintro _ w10 ⟨rfl, rfl⟩
  go_wp2_with fail
  refine (HB.out w9 HO9.out).mono ?_
  rintro _ w11 ⟨rfl, ho11⟩
  have HO11 := Lib.hid (HO7.out.trans (HO9.out.trans ho11))
  clear ho11 HB
  go_wp2_with fail
  go_ret
  exact ⟨rfl, HO11.out⟩
end Go.Proofs.YtkbaafgaaiekpaaGreat.puw
namespace Go.Proofs.YtkbaafgaaiekpaaGreat.puw
open Go.RowKit mem
set_option linter.unusedVariables false

def Tw (base gP gL p q : Nat) (Ap Aq : List fnd.Ac) (n : Nat) (w : World) : Prop := ∃ (Sp Sq : Nat → Prop) (b1 j1 b2 j2 : Nat) (C1 C2 : AcC → Option (List Int)) (L1 L2 : List jnw.Ps), Pv Sp w p b1 j1 Ap n 0 C1 L1 ∧ Pv Sq w q b2 j2 Aq n 0 C2 L2 ∧ (∀ k, Sp k → base ≤ k ∧ ¬ Sq k ∧ k ≠ gP ∧ k ≠ gL) ∧ (∀ k, Sq k → base ≤ k ∧ k ≠ gP ∧ k ≠ gL) ∧ ReadsI w (some ⟨gP, 0, none⟩) 2 [1, 2] ∧ ReadsI w (some ⟨gL, 0, none⟩) 2 [-1, -1]
theorem Tw.symm {base gP gL p q : Nat} {Ap Aq : List fnd.Ac} {n : Nat} {w : World} (h : Tw base gP gL p q Ap Aq n w) : Tw base gP gL q p Aq Ap n w := by
  obtain ⟨Sp, Sq, b1, j1, b2, j2, C1, C2, L1, L2, h1, h2, h3, h4, h5, h6⟩ := h
  exact ⟨Sq, Sp, b2, j2, b1, j1, C2, C1, L2, L1, h2, h1, fun k hk => ⟨(h4 k hk).1, fun s => (h3 k s).2.1 hk, (h4 k hk).2⟩, fun k hk => ⟨(h3 k hk).1, (h3 k hk).2.2⟩, h5, h6⟩
theorem Tw.quiet {base gP gL p q : Nat} {Ap Aq : List fnd.Ac} {n : Nat} {w w' : World} (h : Tw base gP gL p q Ap Aq n w) (ho : Only (fun _ => False) w w') : Tw base gP gL p q Ap Aq n w' := by
  obtain ⟨Sp, Sq, b1, j1, b2, j2, C1, C2, L1, L2, h1, h2, h3, h4, h5, h6⟩ := h
  exact ⟨Sp, Sq, b1, j1, b2, j2, C1, C2, L1, L2, h1.quiet ho, h2.quiet ho, h3, h4, h5.only ho (fun _ _ f => f), h6.only ho (fun _ _ f => f)⟩
theorem reads_lt {w : World} {g n : Nat} {l : List Int} (h : ReadsI w (some ⟨g, 0, none⟩) n l) (hn : 0 < n) : g < w.heap.size := by
  obtain ⟨b, off, e, hc⟩ := h.2.2.2.resolve_left (by omega)
  injection e with e
  injection e with e1 e2
  subst e1
  exact World.block_lt_of_cell? w _ (hc 0 hn)
def TwR (base gP gL p q : Nat) (A' Aq : List fnd.Ac) (E : Int) (n : Nat) (w : World) (e : Ending) (w' : World) : Prop := e = .returned (.int .i64 E) ∧ Only (fun x => base ≤ x) w w' ∧ Tw base gP gL p q A' Aq (n + 1) w'
theorem tw_step {base gP gL p q : Nat} {Sp Sq : Nat → Prop} {b1 j1 b2 j2 : Nat} {A' Aq : List fnd.Ac} {C1 C2 : AcC → Option (List Int)} {L1 L2 : List jnw.Ps} {n : Nat} {w w' : World} {kind m gr E : Int} {path : List Int} {e : Ending} (hb : base ≤ w.heap.size) (h2 : Pv Sq w q b2 j2 Aq n 0 C2 L2) (h3 : ∀ k, Sp k → base ≤ k ∧ ¬ Sq k ∧ k ≠ gP ∧ k ≠ gL) (h4 : ∀ k, Sq k → base ≤ k ∧ k ≠ gP ∧ k ≠ gL) (h5 : ReadsI w (some ⟨gP, 0, none⟩) 2 [1, 2]) (h6 : ReadsI w (some ⟨gL, 0, none⟩) 2 [-1, -1]) (h : PvR Sp w p b1 j1 n 0 C1 L1 kind m gr path A' E e w') : TwR base gP gL p q A' Aq E n w e w' := by
  obtain ⟨r1, r2, S', C', L', r3, r4, -⟩ := h
  have l5 := reads_lt h5 (by omega)
  have l6 := reads_lt h6 (by omega)
  refine ⟨r1, r2.mono (fun k _ s => (h3 k s).1), S', Sq, b1, j1, b2, j2, C', C2, L', L2, r4, (h2.only r2 (fun k a b => (h3 k b).2.1 a)).up (by omega), fun k hk => ?_, h4, h5.only r2 (fun x e s => by injection e with e; rw [← e] at s; exact (h3 _ s).2.2.1 rfl), h6.only r2 (fun x e s => by injection e with e; rw [← e] at s; exact (h3 _ s).2.2.2 rfl)⟩
  rcases r3 k hk with s | s
  · exact h3 k s
  · exact ⟨by omega, fun s2 => by have := h2.lt k s2; omega, by omega, by omega⟩
section
variable {base gP gL p q : Nat} {Ap Aq : List fnd.Ac} {n : Nat} {w : World}
theorem Tw.top (h : Tw base gP gL p q Ap Aq n w) (hb : base ≤ w.heap.size) (hn : n ≤ 126) (k x : Int) (hk : entw.InI k) : Calls Tryz.prog 10 #[.pointer (some ⟨p, 0, none⟩), .int .i64 k, .int .i64 x] w (TwR base gP gL p q (fnd.topA Ap k x) Aq (fnd.topE Ap k x) n w) := by
  obtain ⟨Sp, Sq, b1, j1, b2, j2, C1, C2, L1, L2, h1, h2, h3, h4, h5, h6⟩ := h
  exact (h1.top hn k x hk).mono (fun e w' hm => tw_step hb h2 h3 h4 h5 h6 hm)
theorem Tw.hold (h : Tw base gP gL p q Ap Aq n w) (hb : base ≤ w.heap.size) (hn : n ≤ 126) (x : Int) : Calls Tryz.prog 11 #[.pointer (some ⟨p, 0, none⟩), .slice (some ⟨gP, 0, none⟩) 2 2, .slice (some ⟨gL, 0, none⟩) 2 2, .int .i64 x] w (TwR base gP gL p q (fnd.holdA Ap [1, 2] [-1, -1] x) Aq (fnd.holdE Ap [1, 2] [-1, -1] x) n w) := by
  obtain ⟨Sp, Sq, b1, j1, b2, j2, C1, C2, L1, L2, h1, h2, h3, h4, h5, h6⟩ := h
  exact (h1.hold hn (some ⟨gP, 0, none⟩) 2 2 [1, 2] (some ⟨gL, 0, none⟩) 2 2 [-1, -1] x h5 (by omega) (by omega) h6 (fun y e s => by injection e with e; rw [← e] at s; exact (h3 _ s).2.2.1 rfl)).mono (fun e w' hm => tw_step hb h2 h3 h4 h5 h6 hm)
theorem Tw.rel (h : Tw base gP gL p q Ap Aq n w) (hb : base ≤ w.heap.size) (hn : n ≤ 126) (x : Int) : Calls Tryz.prog 12 #[.pointer (some ⟨p, 0, none⟩), .slice (some ⟨gP, 0, none⟩) 2 2, .int .i64 x] w (TwR base gP gL p q (fnd.shA Ap [1, 2] x (-x) 0) Aq (fnd.shE Ap [1, 2] x (-x) 0) n w) := by
  obtain ⟨Sp, Sq, b1, j1, b2, j2, C1, C2, L1, L2, h1, h2, h3, h4, h5, h6⟩ := h
  exact (h1.rel hn (some ⟨gP, 0, none⟩) 2 2 [1, 2] x h5 (by omega) (by omega) (fun y e s => by injection e with e; rw [← e] at s; exact (h3 _ s).2.2.1 rfl)).mono (fun e w' hm => tw_step hb h2 h3 h4 h5 h6 hm)
theorem Tw.com (h : Tw base gP gL p q Ap Aq n w) (hb : base ≤ w.heap.size) (hn : n ≤ 126) (x gr : Int) (hg : 1 ≤ gr ∧ gr ≤ 8) : Calls Tryz.prog 13 #[.pointer (some ⟨p, 0, none⟩), .slice (some ⟨gP, 0, none⟩) 2 2, .int .i64 x, .int .i64 gr] w (TwR base gP gL p q (fnd.shA Ap [1, 2] x (-x) x) Aq (fnd.shE Ap [1, 2] x (-x) x) n w) := by
  obtain ⟨Sp, Sq, b1, j1, b2, j2, C1, C2, L1, L2, h1, h2, h3, h4, h5, h6⟩ := h
  exact (h1.com hn (some ⟨gP, 0, none⟩) 2 2 [1, 2] x gr hg h5 (by omega) (by omega) (fun y e s => by injection e with e; rw [← e] at s; exact (h3 _ s).2.2.1 rfl)).mono (fun e w' hm => tw_step hb h2 h3 h4 h5 h6 hm)
theorem Tw.get (h : Tw base gP gL p q Ap Aq n w) (k : Int) : Calls Tryz.prog 23 #[.pointer (some ⟨p, 0, none⟩), .int .i64 k] w fun e w' => e = .returned (fnd.aggA (fnd.acG Ap k)) ∧ Only (fun _ => False) w w' := by
  obtain ⟨Sp, Sq, b1, j1, b2, j2, C1, C2, L1, L2, h1, -⟩ := h
  exact pget_any k w h1.pu
end
end Go.Proofs.YtkbaafgaaiekpaaGreat.puw
