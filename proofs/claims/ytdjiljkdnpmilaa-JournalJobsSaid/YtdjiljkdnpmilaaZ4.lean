/- Several texts together: JdE, JdD, LkA. -/
import Derived.Test.YtdjiljkdnpmilaaZ3
import Derived.Deep.CutRange
import Derived.Deep.CutBlock
import Derived.Test.YtdjiljkdnpmilaaZ1
namespace Go.Proofs.Ytdjiljkdnpmilaa.jnw
open Go.RowKit mem accm accn entw entm acck
set_option linter.unusedVariables false

def thL (a : Ac) (ls : List Lg) : Bool := ls.any (fun l => decide (lgA l = a))
def thD (a : Ac) (D : List Es) : Bool := D.any (fun x => thL a x.ls)
theorem thL_take {a : Ac} {ls : List Lg} {k : Nat} (h : k < ls.length) : thL a (ls.take (k + 1)) = (thL a (ls.take k) || decide (lgA (ls.getD k default) = a)) := by
  rw [take_snocL ls k h]
  simp [thL]
theorem thD_take {a : Ac} {D : List Es} {k : Nat} (h : k < D.length) : thD a (D.take (k + 1)) = (thD a (D.take k) || thL a (D.getD k default).ls) := by
  rw [take_snocE D k h]
  simp [thD]
theorem thD_some {a : Ac} {D : List Es} {k : Nat} (h : thD a (D.take k) = true) : thD a D = true := by
  unfold thD at h ⊢
  rw [List.any_eq_true] at h ⊢
  obtain ⟨x, hx, h⟩ := h
  exact ⟨x, List.mem_of_mem_take hx, h⟩
def grpL (k n : Nat) (m : Nat) : List Ac := (List.range m).map (fun g : Nat => (⟨(k : Int), (n : Int), (g : Int)⟩ : Ac))
def nodL (k : Nat) (m : Nat) : List Ac := (List.range m).flatMap (fun n : Nat => grpL k n 9)
def kndL (m : Nat) : List Ac := (List.range m).flatMap (fun k : Nat => nodL (k + 1) 33)
theorem grpL_succ (k n m : Nat) : grpL k n (m + 1) = grpL k n m ++ [⟨k, n, m⟩] := by simp [grpL, List.range_succ]
theorem nodL_succ (k m : Nat) : nodL k (m + 1) = nodL k m ++ grpL k m 9 := by simp [nodL, List.range_succ]
theorem kndL_succ (m : Nat) : kndL (m + 1) = kndL m ++ nodL (m + 1) 33 := by simp [kndL, List.range_succ]
theorem grpL_len (k n m : Nat) : (grpL k n m).length = m := by simp [grpL]
theorem nodL_len (k : Nat) : ∀ m, (nodL k m).length = 9 * m
  | 0 => rfl
  | m + 1 => by rw [nodL_succ, List.length_append, nodL_len k m, grpL_len]; omega
theorem kndL_len : ∀ m, (kndL m).length = 297 * m
  | 0 => rfl
  | m + 1 => by rw [kndL_succ, List.length_append, kndL_len m, nodL_len]; omega
/-- those on which a leg stands -/
def accD (D : List Es) (L : List Ac) : List Lg := (L.filter (fun a => thD a D)).map toL
theorem accD_append (D : List Es) (A B : List Ac) : accD D (A ++ B) = accD D A ++ accD D B := by simp [accD]
theorem accD_len (D : List Es) (A : List Ac) : (accD D A).length ≤ A.length := by unfold accD; rw [List.length_map]; exact List.length_filter_le _ _
theorem accD_yes {D : List Es} {a : Ac} (h : thD a D = true) : accD D [a] = [toL a] := by simp [accD, h]
theorem accD_no {D : List Es} {a : Ac} (h : thD a D = false) : accD D [a] = [] := by simp [accD, h]
/-- what a journal's Accounts answers -/
def RAccs (D : List Es) (w : World) (e : Ending) (w' : World) : Prop := ∃ v, e = .returned v ∧ OwnR w' v (accD D (kndL 5)) ∧ (∀ q, v.ownBlock = some q → w.heap.size ≤ q) ∧ Only (fun _ => False) w w'
theorem ownR_snoc {w : World} {v : Value} {A : List Lg} {x : Lg} (h : w.ownsRow 0 68 4 v (A.length + 1) (lv A ++ encL x)) : OwnR w v (A ++ [x]) := by
  unfold OwnR
  rw [List.length_append, lv_append, lv_cons, lv_nil, List.append_nil]
  exact h
set_option maxRecDepth 100000 in
set_option maxHeartbeats 8000000 in
theorem raccs_any {S : Nat → Prop} (p op : Nat) (vL vW : Value) (D : List Es) (w : World) (h : DjAt S w p vL vW op D) :
    Calls Try.prog 44 #[.pointer (some ⟨p, 0, none⟩)] w (RAccs D w) := by
  obtain ⟨i0, hi, hz0, hz1, hz2⟩ := info_parts info_rleg
  have HDJ : Hid (∀ w', Only (fun _ => False) w w' → DjAt S w' p vL vW op D) := Lib.hid (fun w' ho => h.quiet ho)
  have hlen := h.len
  obtain ⟨aL, cL, hvL⟩ : ∃ a c, vL = .slice a D.length c := by
    rcases own_form h.oL with ⟨hv, h0⟩ | ⟨g, cap, hv, _⟩
    · exact ⟨none, 0, by rw [hv, h0]⟩
    · exact ⟨_, cap, hv⟩
  subst hvL
  clear h
  obtain ⟨ER, her⟩ : ∃ E : Ending → World → Prop, E = RAccs D w := ⟨_, rfl⟩
  have HEN : Hid (∀ w' v, OwnR w' v (accD D (kndL 5)) → (∀ q, v.ownBlock = some q → w.heap.size ≤ q) → Only (fun _ => False) w w' → ER (.returned v) w') := Lib.hid (fun w' v h1 h2 h3 => by rw [her]; exact ⟨v, rfl, h1, h2, h3⟩)
  rw [← her]
  clear her
  go_enter Try.func44, Try.ntmps44
  go_wp2_with fail
  go_loopw [4, 3] (fun kv ov wx => ∃ (kk : Nat) (vo : Value), kk ≤ 5 ∧ kv = .int .i64 ((kk : Int) + 1) ∧ vo = ov ∧ Hid (OwnR wx vo (accD D (kndL kk))) ∧ Hid (∀ q, vo.ownBlock = some q → w.heap.size ≤ q) ∧ Hid (Only (fun _ => False) w wx)) (fun kv _ _ => 6 - (intOf kv).toNat)
  case atStart => exact ⟨0, _, by omega, rfl, rfl, Lib.hid (World.ownsRow_nil _ _ _ _), Lib.hid (fun q e => by cases e), Lib.hid (Only.refl _ _)⟩
  case round =>
    obtain ⟨kk, vo, hk5, rfl, rfl, HO, HB, HX⟩ := hrel
    rename World => w1
    by_cases hk : kk < 5
    · have hkb : (kk : Int) + 1 ≤ 5 := by omega
      have HK5 := Lib.hid hk5
      clear hk5
      go_wp2_with fail
      go_loopw [5, 3] (fun nv ov wx => ∃ (nn : Nat) (vo : Value), nn ≤ 33 ∧ nv = .int .i64 (nn : Int) ∧ vo = ov ∧ Hid (OwnR wx vo (accD D (kndL kk ++ nodL (kk + 1) nn))) ∧ Hid (∀ q, vo.ownBlock = some q → w.heap.size ≤ q) ∧ Hid (Only (fun _ => False) w wx)) (fun nv _ _ => 33 - (intOf nv).toNat)
      case atStart => exact ⟨0, _, by omega, rfl, rfl, by simpa [nodL] using HO, HB, HX⟩
      case round =>
        clear HO HB HX
        obtain ⟨nn, vo, hn33, rfl, rfl, HO, HB, HX⟩ := hrel
        rename World => w2
        by_cases hn : nn < 33
        · have hnb : (nn : Int) ≤ 32 := by omega
          clear hn33
          go_wp2_with fail
          go_loopw [6, 3] (fun gv ov wx => ∃ (gg : Nat) (vo : Value), gg ≤ 9 ∧ gv = .int .i64 (gg : Int) ∧ vo = ov ∧ Hid (OwnR wx vo (accD D (kndL kk ++ nodL (kk + 1) nn ++ grpL (kk + 1) nn gg))) ∧ Hid (∀ q, vo.ownBlock = some q → w.heap.size ≤ q) ∧ Hid (Only (fun _ => False) w wx)) (fun gv _ _ => 9 - (intOf gv).toNat)
          case atStart => exact ⟨0, _, by omega, rfl, rfl, by simpa [grpL] using HO, HB, HX⟩
          case round =>
            clear HO HB HX
            obtain ⟨gg, vo, hg9, rfl, rfl, HO, HB, HX⟩ := hrel
            rename World => w3
            by_cases hg : gg < 9
            · have hgb : (gg : Int) ≤ 8 := by omega
              clear hg9
              obtain ⟨w4, hw4⟩ : ∃ y, y = w3.alloc (.cells #[.int .i64 ((kk : Int) + 1), .int .i64 (nn : Int), .int .i64 (gg : Int), .int .i64 0] 68) := ⟨_, rfl⟩
              obtain ⟨q4, hq4⟩ : ∃ y, y = w3.heap.size := ⟨_, rfl⟩
              have ho4 : Only (fun _ => False) w3 w4 := by rw [hw4]; exact (Only.refl _ w3).alloc _
              have HQ4 : Hid (∀ w', Only (fun _ => False) w4 w' → w'.cell? ⟨q4, 0, none⟩ = some (.int .i64 ((kk : Int) + 1)) ∧ w'.cell? ⟨q4, 1, none⟩ = some (.int .i64 (nn : Int)) ∧ w'.cell? ⟨q4, 2, none⟩ = some (.int .i64 (gg : Int)) ∧ w'.cell? ⟨q4, 3, none⟩ = some (.int .i64 0)) := Lib.hid (fun w' ho =>
                ⟨ho.cell' (by rw [hw4]; exact alloc_new _ _ _ _ _ _ hq4 rfl) (fun f => f), ho.cell' (by rw [hw4]; exact alloc_new _ _ _ _ _ _ hq4 rfl) (fun f => f), ho.cell' (by rw [hw4]; exact alloc_new _ _ _ _ _ _ hq4 rfl) (fun f => f), ho.cell' (by rw [hw4]; exact alloc_new _ _ _ _ _ _ hq4 rfl) (fun f => f)⟩)
              have HX4 := Lib.hid (HX.out.trans ho4)
              have HO4 : Hid (OwnR w4 vo (accD D (kndL kk ++ nodL (kk + 1) nn ++ grpL (kk + 1) nn gg))) := Lib.hid (owns_only ho4 HO.out (fun _ _ f => f))
              have HSZ4 := Lib.hid ho4.size
              obtain ⟨ac, hac⟩ : ∃ y, y = lgA ⟨(kk : Int) + 1, nn, gg, 0⟩ := ⟨_, rfl⟩
              have HAC := Lib.hid hac
              have HGS : Hid (accD D (kndL kk ++ nodL (kk + 1) nn ++ grpL (kk + 1) nn (gg + 1)) = accD D (kndL kk ++ nodL (kk + 1) nn ++ grpL (kk + 1) nn gg) ++ accD D [ac]) := Lib.hid (by
                rw [grpL_succ, ← List.append_assoc, accD_append _ _ [_], hac]; rfl)
              have HTL : Hid (toL ac = ⟨(kk : Int) + 1, nn, gg, 0⟩) := Lib.hid (by rw [hac]; rfl)
              have HAL : Hid ((accD D (kndL kk ++ nodL (kk + 1) nn ++ grpL (kk + 1) nn gg)).length ≤ 2000) := Lib.hid (by
                have h := accD_len D (kndL kk ++ nodL (kk + 1) nn ++ grpL (kk + 1) nn gg)
                rw [List.length_append, List.length_append, kndL_len, nodL_len, grpL_len] at h
                omega)
              clear hac ho4 HO HX
              go_upto_block 6 with fail
              simp only [← hw4, ← hq4]
              clear hw4 hq4
              go_cut [8, 9, 10] from 27 to 68 (fun bv iv kv wx => bv = .bool (thD ac D) ∧ Hid (Only (fun _ => False) w4 wx))
              case first =>
                clear HO4 HGS HTL HAL HB HEN hi hz0 hz1 hz2 HSZ4
                go_wp2_with fail
                go_loopw [9, 8] (fun i bv wx => ∃ k : Nat, k ≤ D.length ∧ i = .int .i64 (k : Int) ∧ bv = .bool (thD ac (D.take k)) ∧ Hid (Only (fun _ => False) w4 wx)) (fun i _ _ => D.length - (intOf i).toNat)
                case atStart => exact ⟨0, by omega, rfl, by simp [thD], Lib.hid (Only.refl _ _)⟩
                case round =>
                  obtain ⟨k, hkl, rfl, rfl, HW⟩ := hrel
                  rename World => wr
                  have c0 := (HDJ.out wr (HX4.out.trans HW.out)).c0
                  by_cases h8 : k < D.length
                  · have hin : (k : Int) < (D.length : Int) := by omega
                    have hk0 : (0 : Int) ≤ (k : Int) := by omega
                    obtain ⟨b0, hb0⟩ : ∃ x, thD ac (D.take k) = x := ⟨_, rfl⟩
                    rw [hb0]
                    have HB0 := Lib.hid hb0
                    clear hb0
                    cases b0
                    · obtain ⟨gL, rfl⟩ : ∃ g, aL = some ⟨g, 0, none⟩ := by
                        rcases own_form (HDJ.out wr (HX4.out.trans HW.out)).oL with ⟨hv, h0⟩ | ⟨g, cap, hv, _⟩
                        · omega
                        · injection hv with hv; exact ⟨g, hv⟩
                      have HMT := Lib.hid (thD_take (a := ac) h8)
                      have hmem : D.getD k default ∈ D := by rw [List.getD_eq_getElem?_getD, List.getElem?_eq_getElem h8]; exact List.getElem_mem h8
                      have HLE := Lib.hid (fun w' ho => ((HDJ.out w' ho).oL.cell h8 rfl).2)
                      have HLR := Lib.hid (fun w' ho => ((HDJ.out w' ho).ls _ hmem).1)
                      have HCH := Lib.hid (((HDJ.out wr (HX4.out.trans HW.out)).ls _ hmem).2.1)
                      obtain ⟨⟨ek, ea, en, ec, ep, es⟩, he⟩ : ∃ x, D.getD k default = x := ⟨_, rfl⟩
                      rw [he] at HMT HLE HLR HCH
                      dsimp only at HMT HLE HLR HCH
                      clear hmem he
                      have HEN2 : Hid (es.length = en) := Lib.hid (HLR.out wr (HX4.out.trans HW.out)).1
                      have hen64 : en ≤ 64 := by have := ((chk_ok _ _).1 HCH.out).2.1; have := HEN2.out; omega
                      clear HCH
                      go_wp2_with fail
                      clear c0
                      go_loopw [10, 8] (fun j bv wx => ∃ t : Nat, t ≤ en ∧ j = .int .i64 (t : Int) ∧ bv = .bool (thL ac (es.take t)) ∧ Hid (Only (fun _ => False) w4 wx)) (fun j _ _ => en - (intOf j).toNat)
                      case atStart => exact ⟨0, by omega, rfl, by simp [thL], HW⟩
                      case round =>
                        obtain ⟨t, ht, rfl, rfl, HX8⟩ := hrel
                        rename World => wx
                        have c0 := (HDJ.out wx (HX4.out.trans HX8.out)).c0
                        have c2 := HLE.out wx (HX4.out.trans HX8.out)
                        by_cases ht8 : t < en
                        · have hti : (t : Int) < (en : Int) := by omega
                          have ht0 : (0 : Int) ≤ (t : Int) := by omega
                          obtain ⟨b, off, rfl, hcell⟩ := (HLR.out wx (HX4.out.trans HX8.out)).2.2.2.resolve_left (by omega)
                          obtain ⟨y0, y1, y2, y3⟩ := hcell t ht8
                          have HLT := Lib.hid (thL_take (a := ac) (ls := es) (k := t) (by rw [HEN2.out]; exact ht8))
                          obtain ⟨⟨lk, lm, lg, lb⟩, hle⟩ : ∃ x, es.getD t default = x := ⟨_, rfl⟩
                          rw [hle] at y0 y1 y2 y3 HLT
                          dsimp only at y0 y1 y2 y3
                          have HS9 : Hid (∀ w', Only (fun _ => False) wx w' → w'.cell? ⟨p, 0, none⟩ = some (.slice (some ⟨gL, 0, none⟩) D.length cL) ∧ w'.cell? ⟨gL, k * 2 + 1, none⟩ = some (.slice (some ⟨b, off, none⟩) en ec) ∧ w'.cell? ⟨b, off + t * 4, none⟩ = some (.int .i64 lk) ∧ w'.cell? ⟨b, off + t * 4 + 1, none⟩ = some (.int .i64 lm) ∧ w'.cell? ⟨b, off + t * 4 + 2, none⟩ = some (.int .i64 lg) ∧ w'.cell? ⟨b, off + t * 4 + 3, none⟩ = some (.int .i64 lb) ∧ w'.cell? ⟨q4, 0, none⟩ = some (.int .i64 ((kk : Int) + 1)) ∧ w'.cell? ⟨q4, 1, none⟩ = some (.int .i64 (nn : Int)) ∧ w'.cell? ⟨q4, 2, none⟩ = some (.int .i64 (gg : Int)) ∧ w'.cell? ⟨q4, 3, none⟩ = some (.int .i64 0)) := Lib.hid (fun w' ho => by
                            obtain ⟨z0, z1, z2, z3⟩ := HQ4.out w' (HX8.out.trans ho)
                            exact ⟨(HDJ.out w' (HX4.out.trans (HX8.out.trans ho))).c0, HLE.out w' (HX4.out.trans (HX8.out.trans ho)), ho.cell' y0 (fun f => f), ho.cell' y1 (fun f => f), ho.cell' y2 (fun f => f), ho.cell' y3 (fun f => f), z0, z1, z2, z3⟩)
                          have HSM := Lib.hid (fun w' => same_any ⟨lk, lm, lg, lb⟩ ⟨(kk : Int) + 1, nn, gg, 0⟩ w')
                          clear hcell hle y0 y1 y2 y3
                          obtain ⟨b1, hb1⟩ : ∃ x, thL ac (es.take t) = x := ⟨_, rfl⟩
                          rw [hb1]
                          have HB1 := Lib.hid hb1
                          rw [hb1] at HLT
                          clear hb1
                          go_upto_region 19 with fail
                          clear c0 c2
                          cases b1
                          · refine wp_region_noPanic ?_
                            refine late.region (fun w' => w'.cell? ⟨p, 0, none⟩ = some (.slice (some ⟨gL, 0, none⟩) D.length cL) ∧ w'.cell? ⟨gL, k * 2 + 1, none⟩ = some (.slice (some ⟨b, off, none⟩) en ec) ∧ w'.cell? ⟨b, off + t * 4, none⟩ = some (.int .i64 lk) ∧ w'.cell? ⟨b, off + t * 4 + 1, none⟩ = some (.int .i64 lm) ∧ w'.cell? ⟨b, off + t * 4 + 2, none⟩ = some (.int .i64 lg) ∧ w'.cell? ⟨b, off + t * 4 + 3, none⟩ = some (.int .i64 lb) ∧ w'.cell? ⟨q4, 0, none⟩ = some (.int .i64 ((kk : Int) + 1)) ∧ w'.cell? ⟨q4, 1, none⟩ = some (.int .i64 (nn : Int)) ∧ w'.cell? ⟨q4, 2, none⟩ = some (.int .i64 (gg : Int)) ∧ w'.cell? ⟨q4, 3, none⟩ = some (.int .i64 0)) (fun j => [].contains j) (by kernel_rfl) (HS9.out _ (Only.refl _ _).drew) (fun hHeld => ?_)
                            obtain ⟨z0, hz0'⟩ : ∃ x, x = wx.drew := ⟨_, rfl⟩
                            rw [← hz0'] at hHeld ⊢
                            have hot : Hid (Only (fun _ => False) wx z0) := Lib.hid (by rw [hz0']; exact (Only.refl _ _).drew)
                            clear hz0'
                            refine late.take (i := 0) [1, 2, 3, 4, 5, 6, 7, 8, 9, 10, 11, 12, 13, 14, 15, 16] (v := ?_) rfl (by kernel_rfl) (by kernel_rfl) (by kernel_rfl) (by kernel_rfl) (fun _ _ _ h => h) (Or.inl ⟨by rfl, ?_⟩) (by assumption) ?_
                            rotate_left 1
                            · intro w' hSw
                              try dsimp only at hSw
                              go_simp
                              try with_reducible rfl
                            try simp only [List.getElem_toArray, List.getElem_cons_zero, Act.put, List.setIfInBounds_toArray, List.set_cons_zero, List.set_cons_succ]
                            refine late.take (i := 1) [2, 3, 4, 5, 6, 7, 8, 9, 10, 11, 12, 13, 14, 15, 16] (v := ?_) rfl (by kernel_rfl) (by kernel_rfl) (by kernel_rfl) (by kernel_rfl) (fun _ _ _ h => h) (Or.inl ⟨by rfl, ?_⟩) (by assumption) ?_
                            rotate_left 1
                            · intro w' hSw
                              try dsimp only at hSw
                              go_simp
                              try with_reducible rfl
                            try simp only [List.getElem_toArray, List.getElem_cons_zero, List.getElem_cons_succ, Act.put, List.setIfInBounds_toArray, List.set_cons_zero, List.set_cons_succ]
                            refine late.take (i := 2) [3, 4, 5, 7, 8, 9, 11, 12, 14, 15, 16] (v := ?_) rfl (by kernel_rfl) (by kernel_rfl) (by kernel_rfl) (by kernel_rfl) (fun _ _ _ h => h) (Or.inl ⟨by rfl, ?_⟩) (by assumption) ?_
                            rotate_left 1
                            · intro w' hSw
                              try dsimp only at hSw
                              go_simp
                              try with_reducible rfl
                            try simp only [List.getElem_toArray, List.getElem_cons_zero, List.getElem_cons_succ, Act.put, List.setIfInBounds_toArray, List.set_cons_zero, List.set_cons_succ]
                            refine late.take (i := 3) [4, 5, 7, 8, 9, 11, 12, 14, 15, 16] (v := ?_) rfl (by kernel_rfl) (by kernel_rfl) (by kernel_rfl) (by kernel_rfl) (fun _ _ _ h => h) (Or.inl ⟨by rfl, ?_⟩) (by assumption) ?_
                            rotate_left 1
                            · intro w' hSw
                              try dsimp only at hSw
                              go_simp
                              try with_reducible rfl
                            try simp only [List.getElem_toArray, List.getElem_cons_zero, List.getElem_cons_succ, Act.put, List.setIfInBounds_toArray, List.set_cons_zero, List.set_cons_succ]
                            refine late.take (i := 4) [5, 7, 8, 9, 11, 12, 14, 15, 16] (v := ?_) rfl (by kernel_rfl) (by kernel_rfl) (by kernel_rfl) (by kernel_rfl) (fun _ _ _ h => h) (Or.inl ⟨by rfl, ?_⟩) (by assumption) ?_
                            rotate_left 1
                            · intro w' hSw
                              try dsimp only at hSw
                              go_simp
                              try with_reducible rfl
                            try simp only [List.getElem_toArray, List.getElem_cons_zero, List.getElem_cons_succ, Act.put, List.setIfInBounds_toArray, List.set_cons_zero, List.set_cons_succ]
                            refine late.take (i := 5) [7, 8, 9, 11, 12, 14, 15, 16] (v := ?_) rfl (by kernel_rfl) (by kernel_rfl) (by kernel_rfl) (by kernel_rfl) (fun _ _ _ h => h) (Or.inl ⟨by rfl, ?_⟩) (by assumption) ?_
                            rotate_left 1
                            · intro w' hSw
                              try dsimp only at hSw
                              go_simp
                              try with_reducible rfl
                            try simp only [List.getElem_toArray, List.getElem_cons_zero, List.getElem_cons_succ, Act.put, List.setIfInBounds_toArray, List.set_cons_zero, List.set_cons_succ]
                            refine late.take (i := 6) [7, 8, 9, 11, 12, 14, 15, 16] (v := ?_) rfl (by kernel_rfl) (by kernel_rfl) (by kernel_rfl) (by kernel_rfl) (fun _ _ _ h => h) (Or.inl ⟨by rfl, ?_⟩) (by assumption) ?_
                            rotate_left 1
                            · intro w' hSw
                              try dsimp only at hSw
                              go_simp
                              try with_reducible rfl
                            try simp only [List.getElem_toArray, List.getElem_cons_zero, List.getElem_cons_succ, Act.put, List.setIfInBounds_toArray, List.set_cons_zero, List.set_cons_succ]
                            refine late.take (i := 7) [8, 9, 11, 12, 14, 15, 16] (v := ?_) rfl (by kernel_rfl) (by kernel_rfl) (by kernel_rfl) (by kernel_rfl) (fun _ _ _ h => h) (Or.inl ⟨by rfl, ?_⟩) (by assumption) ?_
                            rotate_left 1
                            · intro w' hSw
                              try dsimp only at hSw
                              go_simp
                              try with_reducible rfl
                            try simp only [List.getElem_toArray, List.getElem_cons_zero, List.getElem_cons_succ, Act.put, List.setIfInBounds_toArray, List.set_cons_zero, List.set_cons_succ]
                            refine late.take (i := 8) [9, 11, 12, 14, 15, 16] (v := ?_) rfl (by kernel_rfl) (by kernel_rfl) (by kernel_rfl) (by kernel_rfl) (fun _ _ _ h => h) (Or.inl ⟨by rfl, ?_⟩) (by assumption) ?_
                            rotate_left 1
                            · intro w' hSw
                              try dsimp only at hSw
                              go_simp
                              try with_reducible rfl
                            try simp only [List.getElem_toArray, List.getElem_cons_zero, List.getElem_cons_succ, Act.put, List.setIfInBounds_toArray, List.set_cons_zero, List.set_cons_succ]
                            refine late.take (i := 9) [11, 12, 14, 15, 16] (v := ?_) rfl (by kernel_rfl) (by kernel_rfl) (by kernel_rfl) (by kernel_rfl) (fun _ _ _ h => h) (Or.inl ⟨by rfl, ?_⟩) (by assumption) ?_
                            rotate_left 1
                            · intro w' hSw
                              try dsimp only at hSw
                              go_simp
                              try with_reducible rfl
                            try simp only [List.getElem_toArray, List.getElem_cons_zero, List.getElem_cons_succ, Act.put, List.setIfInBounds_toArray, List.set_cons_zero, List.set_cons_succ]
                            refine late.take (i := 10) [11, 12, 14, 15, 16] (v := ?_) rfl (by kernel_rfl) (by kernel_rfl) (by kernel_rfl) (by kernel_rfl) (fun _ _ _ h => h) (Or.inl ⟨by rfl, ?_⟩) (by assumption) ?_
                            rotate_left 1
                            · intro w' hSw
                              try dsimp only at hSw
                              go_simp
                              try with_reducible rfl
                            try simp only [List.getElem_toArray, List.getElem_cons_zero, List.getElem_cons_succ, Act.put, List.setIfInBounds_toArray, List.set_cons_zero, List.set_cons_succ]
                            refine late.take (i := 11) [12, 14, 15, 16] (v := ?_) rfl (by kernel_rfl) (by kernel_rfl) (by kernel_rfl) (by kernel_rfl) (fun _ _ _ h => h) (Or.inl ⟨by rfl, ?_⟩) (by assumption) ?_
                            rotate_left 1
                            · intro w' hSw
                              try dsimp only at hSw
                              go_simp
                              try with_reducible rfl
                            try simp only [List.getElem_toArray, List.getElem_cons_zero, List.getElem_cons_succ, Act.put, List.setIfInBounds_toArray, List.set_cons_zero, List.set_cons_succ]
                            refine late.take (i := 12) [14, 15, 16] (v := ?_) rfl (by kernel_rfl) (by kernel_rfl) (by kernel_rfl) (by kernel_rfl) (fun _ _ _ h => h) (Or.inl ⟨by rfl, ?_⟩) (by assumption) ?_
                            rotate_left 1
                            · intro w' hSw
                              try dsimp only at hSw
                              go_simp
                              try with_reducible rfl
                            try simp only [List.getElem_toArray, List.getElem_cons_zero, List.getElem_cons_succ, Act.put, List.setIfInBounds_toArray, List.set_cons_zero, List.set_cons_succ]
                            refine late.take (i := 13) [14, 15, 16] (v := ?_) rfl (by kernel_rfl) (by kernel_rfl) (by kernel_rfl) (by kernel_rfl) (fun _ _ _ h => h) (Or.inl ⟨by rfl, ?_⟩) (by assumption) ?_
                            rotate_left 1
                            · intro w' hSw
                              try dsimp only at hSw
                              go_simp
                              try with_reducible rfl
                            try simp only [List.getElem_toArray, List.getElem_cons_zero, List.getElem_cons_succ, Act.put, List.setIfInBounds_toArray, List.set_cons_zero, List.set_cons_succ]
                            refine late.ready (rs := [14]) (by kernel_rfl) (by simp) ?_
                            refine late.Each.cons rfl (fun K hK => ?_) late.Each.nil
                            try simp only [List.getElem_toArray, List.getElem_cons_zero, List.getElem_cons_succ]
                            go_simp
                            go_at_call 61
                            with_reducible refine (HSM.out _).mono ?_
                            rintro _ W1 ⟨rfl, ho⟩
                            replace hot := Lib.hid (hot.out.trans ho)
                            clear ho
                            try dsimp only
                            refine hK.out _ _ (fun _ => HS9.out _ hot.out) (fun hHeld1 => ?_)
                            replace hHeld1 := hHeld1 rfl
                            clear hK K
                            try simp only [List.getElem_toArray, List.getElem_cons_zero, List.getElem_cons_succ, Act.put, List.setIfInBounds_toArray, List.set_cons_zero, List.set_cons_succ]
                            refine late.take (i := 15) [16] (v := ?_) rfl (by kernel_rfl) (by kernel_rfl) (by kernel_rfl) (by kernel_rfl) (fun _ _ _ h => h) (Or.inl ⟨by rfl, ?_⟩) (by assumption) ?_
                            rotate_left 1
                            · intro w' hSw
                              try dsimp only at hSw
                              go_simp
                              try with_reducible rfl
                            try simp only [List.getElem_toArray, List.getElem_cons_zero, List.getElem_cons_succ, Act.put, List.setIfInBounds_toArray, List.set_cons_zero, List.set_cons_succ]
                            refine late.take (i := 16) [] (v := ?_) rfl (by kernel_rfl) (by kernel_rfl) (by kernel_rfl) (by kernel_rfl) (fun _ _ _ h => h) (Or.inl ⟨by rfl, ?_⟩) (by assumption) ?_
                            rotate_left 1
                            · intro w' hSw
                              try dsimp only at hSw
                              go_simp
                              try with_reducible rfl
                            try simp only [List.getElem_toArray, List.getElem_cons_zero, List.getElem_cons_succ, Act.put, List.setIfInBounds_toArray, List.set_cons_zero, List.set_cons_succ]
                            refine late.done (by kernel_rfl) ?_ _
                            refine NoPanic.normal ?_
                            have HX9 := Lib.hid (HX8.out.trans hot.out)
                            clear hHeld hot HS9 HSM
                            have hdd : decide (lgA ⟨lk, lm, lg, lb⟩ = lgA ⟨(kk : Int) + 1, nn, gg, 0⟩) = thL ac (es.take (t + 1)) := by rw [HLT.out, HAC.out]; simp
                            rw [hdd]
                            clear hdd
                            generalize hs0 : thL ac (es.take (t + 1)) = s0
                            have HS0 := Lib.hid hs0
                            clear hs0 HLT
                            go_wp2_with fail
                            go_roundw
                            case rel => exact ⟨t + 1, by omega, by go_num, by rw [HS0.out], HX9⟩
                            case measure => (simp [intOf]; omega)
                          · refine wp_region_noPanic ?_
                            refine late.region (fun w' => w'.cell? ⟨p, 0, none⟩ = some (.slice (some ⟨gL, 0, none⟩) D.length cL) ∧ w'.cell? ⟨gL, k * 2 + 1, none⟩ = some (.slice (some ⟨b, off, none⟩) en ec) ∧ w'.cell? ⟨b, off + t * 4, none⟩ = some (.int .i64 lk) ∧ w'.cell? ⟨b, off + t * 4 + 1, none⟩ = some (.int .i64 lm) ∧ w'.cell? ⟨b, off + t * 4 + 2, none⟩ = some (.int .i64 lg) ∧ w'.cell? ⟨b, off + t * 4 + 3, none⟩ = some (.int .i64 lb) ∧ w'.cell? ⟨q4, 0, none⟩ = some (.int .i64 ((kk : Int) + 1)) ∧ w'.cell? ⟨q4, 1, none⟩ = some (.int .i64 (nn : Int)) ∧ w'.cell? ⟨q4, 2, none⟩ = some (.int .i64 (gg : Int)) ∧ w'.cell? ⟨q4, 3, none⟩ = some (.int .i64 0)) (fun j => [].contains j) (by kernel_rfl) (HS9.out _ (Only.refl _ _).drew) (fun hHeld => ?_)
                            obtain ⟨z0, hz0'⟩ : ∃ x, x = wx.drew := ⟨_, rfl⟩
                            rw [← hz0'] at hHeld ⊢
                            have hot : Hid (Only (fun _ => False) wx z0) := Lib.hid (by rw [hz0']; exact (Only.refl _ _).drew)
                            clear hz0'
                            refine late.take (i := 0) [1, 2, 3, 4, 5, 6, 7, 8, 9, 10, 11, 12, 13, 14, 15, 16] (v := ?_) rfl (by kernel_rfl) (by kernel_rfl) (by kernel_rfl) (by kernel_rfl) (fun _ _ _ h => h) (Or.inl ⟨by rfl, ?_⟩) (by assumption) ?_
                            rotate_left 1
                            · intro w' hSw
                              try dsimp only at hSw
                              go_simp
                              try with_reducible rfl
                            try simp only [List.getElem_toArray, List.getElem_cons_zero, Act.put, List.setIfInBounds_toArray, List.set_cons_zero, List.set_cons_succ]
                            refine late.take (i := 1) [2, 3, 4, 5, 6, 7, 8, 9, 10, 11, 12, 13, 14, 15, 16] (v := ?_) rfl (by kernel_rfl) (by kernel_rfl) (by kernel_rfl) (by kernel_rfl) (fun _ _ _ h => h) (Or.inl ⟨by rfl, ?_⟩) (by assumption) ?_
                            rotate_left 1
                            · intro w' hSw
                              try dsimp only at hSw
                              go_simp
                              try with_reducible rfl
                            try simp only [List.getElem_toArray, List.getElem_cons_zero, List.getElem_cons_succ, Act.put, List.setIfInBounds_toArray, List.set_cons_zero, List.set_cons_succ]
                            refine late.take (i := 2) [3, 4, 5, 7, 8, 9, 11, 12, 14, 15, 16] (v := undef) rfl (by kernel_rfl) (by kernel_rfl) (by kernel_rfl) (by kernel_rfl) (fun _ _ _ h => h) (Or.inr ⟨rfl, rfl⟩) (by assumption) ?_
                            try simp only [List.getElem_toArray, List.getElem_cons_zero, List.getElem_cons_succ, Act.put, List.setIfInBounds_toArray, List.set_cons_zero, List.set_cons_succ]
                            refine late.take (i := 3) [4, 5, 7, 8, 9, 11, 12, 14, 15, 16] (v := undef) rfl (by kernel_rfl) (by kernel_rfl) (by kernel_rfl) (by kernel_rfl) (fun _ _ _ h => h) (Or.inr ⟨rfl, rfl⟩) (by assumption) ?_
                            try simp only [List.getElem_toArray, List.getElem_cons_zero, List.getElem_cons_succ, Act.put, List.setIfInBounds_toArray, List.set_cons_zero, List.set_cons_succ]
                            refine late.take (i := 4) [5, 7, 8, 9, 11, 12, 14, 15, 16] (v := undef) rfl (by kernel_rfl) (by kernel_rfl) (by kernel_rfl) (by kernel_rfl) (fun _ _ _ h => h) (Or.inr ⟨rfl, rfl⟩) (by assumption) ?_
                            try simp only [List.getElem_toArray, List.getElem_cons_zero, List.getElem_cons_succ, Act.put, List.setIfInBounds_toArray, List.set_cons_zero, List.set_cons_succ]
                            refine late.take (i := 5) [7, 8, 9, 11, 12, 14, 15, 16] (v := undef) rfl (by kernel_rfl) (by kernel_rfl) (by kernel_rfl) (by kernel_rfl) (fun _ _ _ h => h) (Or.inr ⟨rfl, rfl⟩) (by assumption) ?_
                            try simp only [List.getElem_toArray, List.getElem_cons_zero, List.getElem_cons_succ, Act.put, List.setIfInBounds_toArray, List.set_cons_zero, List.set_cons_succ]
                            refine late.take (i := 6) [7, 8, 9, 11, 12, 14, 15, 16] (v := undef) rfl (by kernel_rfl) (by kernel_rfl) (by kernel_rfl) (by kernel_rfl) (fun _ _ _ h => h) (Or.inr ⟨rfl, rfl⟩) (by assumption) ?_
                            try simp only [List.getElem_toArray, List.getElem_cons_zero, List.getElem_cons_succ, Act.put, List.setIfInBounds_toArray, List.set_cons_zero, List.set_cons_succ]
                            refine late.take (i := 7) [8, 9, 11, 12, 14, 15, 16] (v := undef) rfl (by kernel_rfl) (by kernel_rfl) (by kernel_rfl) (by kernel_rfl) (fun _ _ _ h => h) (Or.inr ⟨rfl, rfl⟩) (by assumption) ?_
                            try simp only [List.getElem_toArray, List.getElem_cons_zero, List.getElem_cons_succ, Act.put, List.setIfInBounds_toArray, List.set_cons_zero, List.set_cons_succ]
                            refine late.take (i := 8) [9, 11, 12, 14, 15, 16] (v := undef) rfl (by kernel_rfl) (by kernel_rfl) (by kernel_rfl) (by kernel_rfl) (fun _ _ _ h => h) (Or.inr ⟨rfl, rfl⟩) (by assumption) ?_
                            try simp only [List.getElem_toArray, List.getElem_cons_zero, List.getElem_cons_succ, Act.put, List.setIfInBounds_toArray, List.set_cons_zero, List.set_cons_succ]
                            refine late.take (i := 9) [11, 12, 14, 15, 16] (v := undef) rfl (by kernel_rfl) (by kernel_rfl) (by kernel_rfl) (by kernel_rfl) (fun _ _ _ h => h) (Or.inr ⟨rfl, rfl⟩) (by assumption) ?_
                            try simp only [List.getElem_toArray, List.getElem_cons_zero, List.getElem_cons_succ, Act.put, List.setIfInBounds_toArray, List.set_cons_zero, List.set_cons_succ]
                            refine late.take (i := 10) [11, 12, 14, 15, 16] (v := undef) rfl (by kernel_rfl) (by kernel_rfl) (by kernel_rfl) (by kernel_rfl) (fun _ _ _ h => h) (Or.inr ⟨rfl, rfl⟩) (by assumption) ?_
                            try simp only [List.getElem_toArray, List.getElem_cons_zero, List.getElem_cons_succ, Act.put, List.setIfInBounds_toArray, List.set_cons_zero, List.set_cons_succ]
                            refine late.take (i := 11) [12, 14, 15, 16] (v := undef) rfl (by kernel_rfl) (by kernel_rfl) (by kernel_rfl) (by kernel_rfl) (fun _ _ _ h => h) (Or.inr ⟨rfl, rfl⟩) (by assumption) ?_
                            try simp only [List.getElem_toArray, List.getElem_cons_zero, List.getElem_cons_succ, Act.put, List.setIfInBounds_toArray, List.set_cons_zero, List.set_cons_succ]
                            refine late.take (i := 12) [14, 15, 16] (v := undef) rfl (by kernel_rfl) (by kernel_rfl) (by kernel_rfl) (by kernel_rfl) (fun _ _ _ h => h) (Or.inr ⟨rfl, rfl⟩) (by assumption) ?_
                            try simp only [List.getElem_toArray, List.getElem_cons_zero, List.getElem_cons_succ, Act.put, List.setIfInBounds_toArray, List.set_cons_zero, List.set_cons_succ]
                            refine late.take (i := 13) [14, 15, 16] (v := undef) rfl (by kernel_rfl) (by kernel_rfl) (by kernel_rfl) (by kernel_rfl) (fun _ _ _ h => h) (Or.inr ⟨rfl, rfl⟩) (by assumption) ?_
                            try simp only [List.getElem_toArray, List.getElem_cons_zero, List.getElem_cons_succ, Act.put, List.setIfInBounds_toArray, List.set_cons_zero, List.set_cons_succ]
                            refine late.take (i := 14) [15, 16] (v := undef) rfl (by kernel_rfl) (by kernel_rfl) (by kernel_rfl) (by kernel_rfl) (fun _ _ _ h => h) (Or.inr ⟨rfl, rfl⟩) (by assumption) ?_
                            try simp only [List.getElem_toArray, List.getElem_cons_zero, List.getElem_cons_succ, Act.put, List.setIfInBounds_toArray, List.set_cons_zero, List.set_cons_succ]
                            refine late.take (i := 15) [16] (v := ?_) rfl (by kernel_rfl) (by kernel_rfl) (by kernel_rfl) (by kernel_rfl) (fun _ _ _ h => h) (Or.inl ⟨by rfl, ?_⟩) (by assumption) ?_
                            rotate_left 1
                            · intro w' hSw
                              try dsimp only at hSw
                              go_simp
                              try with_reducible rfl
                            try simp only [List.getElem_toArray, List.getElem_cons_zero, List.getElem_cons_succ, Act.put, List.setIfInBounds_toArray, List.set_cons_zero, List.set_cons_succ]
                            refine late.take (i := 16) [] (v := ?_) rfl (by kernel_rfl) (by kernel_rfl) (by kernel_rfl) (by kernel_rfl) (fun _ _ _ h => h) (Or.inl ⟨by rfl, ?_⟩) (by assumption) ?_
                            rotate_left 1
                            · intro w' hSw
                              try dsimp only at hSw
                              go_simp
                              try with_reducible rfl
                            try simp only [List.getElem_toArray, List.getElem_cons_zero, List.getElem_cons_succ, Act.put, List.setIfInBounds_toArray, List.set_cons_zero, List.set_cons_succ]
                            refine late.done (by kernel_rfl) ?_ _
                            refine NoPanic.normal ?_
                            have HX9 := Lib.hid (HX8.out.trans hot.out)
                            have HLY : Hid (thL ac (es.take (t + 1)) = true) := Lib.hid (by rw [HLT.out]; rfl)
                            clear hHeld hot HS9 HSM HLT
                            go_wp2_with fail
                            go_roundw
                            case rel => exact ⟨t + 1, by omega, by go_num, by rw [HLY.out], HX9⟩
                            case measure => (simp [intOf]; omega)
                        · have hti : ¬ (t : Int) < (en : Int) := by omega
                          obtain rfl : t = en := by omega
                          have hfull : es.take t = es := List.take_of_length_le (by rw [HEN2.out]; omega)
                          have HCF : Hid (thD ac (D.take (k + 1)) = thL ac es) := Lib.hid (by rw [HMT.out, HB0.out]; simp)
                          rw [hfull, ← HCF.out]
                          clear hfull
                          go_wp2_with fail
                          go_roundw
                          case rel => exact ⟨k + 1, by omega, by go_num, rfl, HX8⟩
                          case measure => (simp [intOf]; omega)
                    · have HD1 : Hid (thD ac D = true) := Lib.hid (thD_some HB0.out)
                      clear HB0
                      go_wp2_with fail
                      go_meet
                      exact ⟨by rw [HD1.out], HW⟩
                  · have hin : ¬ (k : Int) < (D.length : Int) := by omega
                    obtain rfl : k = D.length := by omega
                    rw [List.take_length]
                    go_wp2_with fail
                    go_meet
                    exact ⟨rfl, HW⟩
              case rest =>
                obtain ⟨rfl, HW⟩ := hcut
                rename World => w5
                obtain ⟨q0, q1, q2, q3⟩ := HQ4.out w5 HW.out
                have HX5 := Lib.hid (HX4.out.trans HW.out)
                have HO5 : Hid (OwnR w5 vo (accD D (kndL kk ++ nodL (kk + 1) nn ++ grpL (kk + 1) nn gg))) := Lib.hid (owns_only HW.out HO4.out (fun _ _ f => f))
                clear HO4 HDJ HEN
                obtain ⟨b0, hb0⟩ : ∃ x, thD ac D = x := ⟨_, rfl⟩
                rw [hb0]
                cases b0
                · have HO6 : Hid (OwnR w5 vo (accD D (kndL kk ++ nodL (kk + 1) nn ++ grpL (kk + 1) nn (gg + 1)))) := Lib.hid (by rw [HGS.out, accD_no hb0, List.append_nil]; exact HO5.out)
                  clear hb0 HO5 HGS
                  go_wp2_with fail
                  go_roundw
                  case rel => exact ⟨gg + 1, _, by omega, by go_num, rfl, HO6, HB, HX5⟩
                  case measure => (simp [intOf]; omega)
                · have HGT := Lib.hid (HGS.out.trans (by rw [accD_yes hb0, HTL.out]))
                  obtain ⟨A, hA⟩ : ∃ x, x = accD D (kndL kk ++ nodL (kk + 1) nn ++ grpL (kk + 1) nn gg) := ⟨_, rfl⟩
                  rw [← hA] at HO5 HAL HGT
                  have hAl := HAL.out
                  clear hA hb0 HGS HAL
                  have HP : Hid ((w5.alloc (.cells #[.int .i64 ((kk : Int) + 1), .int .i64 (nn : Int), .int .i64 (gg : Int), .int .i64 0] 68)).ownsRow 0 68 4 vo A.length (lv A)) := Lib.hid (owns_only (S := fun _ => False) ((Only.refl _ w5).alloc _) HO5.out (fun _ _ f => f))
                  go_wp2_with (at_builtin; refine append_mine rfl _ _ 31 rfl 68 i0 _ 4 32 Try.underlying31 hi hz0 hz1 hz2 rfl (by decide) _ A.length _ rfl HP.out ⟨w5.heap.size, 0, none⟩ 1 1 (encL ⟨(kk : Int) + 1, nn, gg, 0⟩) rfl ?c1 ?c2 ?c3 ?c4 ?c5 ?_)
                  case c1 => rfl
                  case c2 => exact news_leg rfl _
                  case c3 => exact lv_one [⟨(kk : Int) + 1, nn, gg, 0⟩]
                  case c4 => unfold maxLen; omega
                  case c5 => omega
                  intro v2 w6 hown hgrow hkk
                  obtain ⟨g2, cp2, rfl, -⟩ := owns_form hown (by omega)
                  have HO6 : Hid (OwnR w6 (.slice (some ⟨g2, 0, none⟩) (A.length + 1) cp2) (accD D (kndL kk ++ nodL (kk + 1) nn ++ grpL (kk + 1) nn (gg + 1)))) := Lib.hid (by rw [HGT.out]; exact ownR_snoc hown)
                  have HB6 : Hid (∀ q, (Value.slice (some ⟨g2, 0, none⟩) (A.length + 1) cp2).ownBlock = some q → w.heap.size ≤ q) := Lib.hid (fun q hq => by
                    rcases hkk q hq with e | e
                    · exact HB.out q e
                    · have := HX5.out.size; omega)
                  have HX6 : Hid (Only (fun _ => False) w w6) := Lib.hid (HX5.out.then ((((Only.refl (fun _ => False) w5).alloc _).mono (fun _ _ f => f.elim)).trans (Only.of_grown hgrow)) (fun q hq e => by have := HB.out q e; omega))
                  clear hown hgrow hkk HP HO5 HB HX5 q0 q1 q2 q3
                  go_wp2_with fail
                  go_roundw
                  case rel => exact ⟨gg + 1, _, by omega, by go_num, rfl, HO6, HB6, HX6⟩
                  case measure => (simp [intOf]; omega)
            · have hgb : ¬ (gg : Int) ≤ 8 := by omega
              obtain rfl : gg = 9 := by omega
              have HO9 : Hid (OwnR w3 vo (accD D (kndL kk ++ nodL (kk + 1) (nn + 1)))) := Lib.hid (by rw [nodL_succ, ← List.append_assoc]; exact HO.out)
              clear HO
              go_wp2_with fail
              go_roundw
              case rel => exact ⟨nn + 1, _, by omega, by go_num, rfl, HO9, HB, HX⟩
              case measure => (simp [intOf]; omega)
        · have hnb : ¬ (nn : Int) ≤ 32 := by omega
          obtain rfl : nn = 33 := by omega
          have HO9 : Hid (OwnR w2 vo (accD D (kndL (kk + 1)))) := Lib.hid (by rw [kndL_succ]; exact HO.out)
          clear HO
          go_wp2_with fail
          go_roundw
          case rel => exact ⟨kk + 1, _, by omega, by go_num, rfl, HO9, HB, HX⟩
          case measure => (simp [intOf]; omega)
    · have hkb : ¬ (kk : Int) + 1 ≤ 5 := by omega
      obtain rfl : kk = 5 := by omega
      have HE := Lib.hid (HEN.out _ _ HO.out HB.out HX.out)
      clear hk5 hk HO HB HX HEN
      go_wp2_with fail
      exact HE.out
end Go.Proofs.Ytdjiljkdnpmilaa.jnw

namespace Go.Proofs.Ytdjiljkdnpmilaa.jnw
open Go.RowKit mem accm accn entw entm acck bigw intm
set_option linter.unusedVariables false

theorem news_i {W : World} {g : Nat} {x : Int} (hg : g = W.heap.size) (t : TypeId) : ∀ j u, (iv [x])[j]? = some u → (W.alloc (.cells #[.int .i64 x] t)).cell? ((Addr.mk g 0 none).add j) = some u := by
  intro j u h
  cases j with
  | zero => rw [mem.add_none]; simp [iv] at h; rw [← h]; exact alloc_new _ _ _ _ _ _ hg rfl
  | succ j => simp [iv] at h
theorem iv_one1 (x : Int) : ∀ u ∈ iv [x], u.oneCell' = true := by intro u hu; simp [iv] at hu; rw [hu]; rfl
theorem own_snoc {w : World} {v : Value} {dd : List Int} {x : Int} (h : w.ownsRow 0 3 1 v (dd.length + 1) (iv dd ++ iv [x])) : OwnN w v (dd ++ [x]) := by
  unfold OwnN
  rw [List.length_append]
  have e : iv (dd ++ [x]) = iv dd ++ iv [x] := by simp [iv]
  rw [e]
  exact h
set_option maxRecDepth 100000 in
set_option maxHeartbeats 8000000 in
theorem rtrial_any {S : Nat → Prop} (p op : Nat) (vL vW : Value) (D : List Es) (per : Int) (w : World) (h : DjAt S w p vL vW op D) :
    Calls Try.prog 43 #[.pointer (some ⟨p, 0, none⟩), .int .i64 per] w fun e w' => e = .returned (.tuple #[.int .i64 (rtriO op D per).1, .int .i64 (rtriO op D per).2, .int .i64 (rtriE op D per)]) ∧ Only (fun _ => False) w w' := by
  obtain ⟨i0, hi, hz0, hz1, hz2⟩ := info_parts info_i64J
  have HDJ : Hid (∀ w', Only (fun _ => False) w w' → DjAt S w' p vL vW op D) := Lib.hid (fun w' ho => h.quiet ho)
  have hlen := h.len
  have c2 := h.c2
  obtain ⟨aL, cL, hvL⟩ : ∃ a c, vL = .slice a D.length c := by
    rcases own_form h.oL with ⟨hv, h0⟩ | ⟨g, cap, hv, _⟩
    · exact ⟨none, 0, by rw [hv, h0]⟩
    · exact ⟨_, cap, hv⟩
  subst hvL
  obtain ⟨aW, cW, hvW⟩ : ∃ a c, vW = .slice a D.length c := by
    have hl : (whens D).length = D.length := by simp [whens]
    rcases own_form h.oW with ⟨hv, h0⟩ | ⟨g, cap, hv, _⟩
    · exact ⟨none, 0, by rw [hv, ← hl, h0]⟩
    · exact ⟨_, cap, by rw [hv, hl]⟩
  subst hvW
  have HLS := Lib.hid (fun x hx => (chk_ok _ _).1 (h.ls x hx).2.1)
  clear h
  by_cases hlo : per < -1
  · have h1 : rtriE op D per = 7 := by unfold rtriE; rw [if_pos (.inl hlo)]
    have h2 : rtriO op D per = (0, 0) := by unfold rtriO; rw [if_pos (.inl hlo)]
    rw [h1, h2]
    clear h1 h2
    go_enter Try.func43, Try.ntmps43
    go_wp2_with fail
    go_ret3
    exact ⟨rfl, Only.refl _ _⟩
  · by_cases hhi : (op : Int) < per
    · have h1 : rtriE op D per = 7 := by unfold rtriE; rw [if_pos (.inr hhi)]
      have h2 : rtriO op D per = (0, 0) := by unfold rtriO; rw [if_pos (.inr hhi)]
      rw [h1, h2]
      clear h1 h2
      go_enter Try.func43, Try.ntmps43
      go_wp2_with fail
      go_ret3
      exact ⟨rfl, Only.refl _ _⟩
    · have h1 : rtriE op D per = if isInt (dlst per (prE D)).sum = true ∧ isInt (clst per (prE D)).sum = true then 0 else 6 := by unfold rtriE; rw [if_neg (by omega)]
      have h2 : rtriO op D per = if isInt (dlst per (prE D)).sum = true ∧ isInt (clst per (prE D)).sum = true then ((dlst per (prE D)).sum, (clst per (prE D)).sum) else (0, 0) := by unfold rtriO; rw [if_neg (by omega)]
      rw [h1, h2]
      clear h1 h2
      obtain ⟨ER, her⟩ : ∃ E : Ending → World → Prop, E = fun e w' => e = .returned (.tuple #[.int .i64 (if isInt (dlst per (prE D)).sum = true ∧ isInt (clst per (prE D)).sum = true then ((dlst per (prE D)).sum, (clst per (prE D)).sum) else (0, 0)).1, .int .i64 (if isInt (dlst per (prE D)).sum = true ∧ isInt (clst per (prE D)).sum = true then ((dlst per (prE D)).sum, (clst per (prE D)).sum) else (0, 0)).2, .int .i64 (if isInt (dlst per (prE D)).sum = true ∧ isInt (clst per (prE D)).sum = true then 0 else 6)]) ∧ Only (fun _ => False) w w' := ⟨_, rfl⟩
      have HEN0 : Hid (∀ w', Only (fun _ => False) w w' → ¬ (isInt (dlst per (prE D)).sum = true ∧ isInt (clst per (prE D)).sum = true) → ER (.returned (.tuple #[.int .i64 0, .int .i64 0, .int .i64 6])) w') := Lib.hid (fun w' ho hn => by rw [her, if_neg hn, if_neg hn]; exact ⟨rfl, ho⟩)
      have HES : Hid (∀ w', Only (fun _ => False) w w' → (isInt (dlst per (prE D)).sum = true ∧ isInt (clst per (prE D)).sum = true) → ER (.returned (.tuple #[.int .i64 (dlst per (prE D)).sum, .int .i64 (clst per (prE D)).sum, .int .i64 0])) w') := Lib.hid (fun w' ho hn => by rw [her, if_pos hn, if_pos hn]; exact ⟨rfl, ho⟩)
      rw [← her]
      clear her
      have HLM : Hid (∀ k t : Nat, k ≤ D.length → t ≤ 64 → ∀ es : List Lg, es.length ≤ 64 → (dlst per (prE (D.take k)) ++ dls (es.take t)).length ≤ 2000000 ∧ (clst per (prE (D.take k)) ++ cls (es.take t)).length ≤ 2000000) := Lib.hid (fun k t hk ht es he => by
        have h := dlst_len per (prE (D.take k)) (fun x hx => by
          obtain ⟨y, hy, rfl⟩ := List.mem_map.1 hx
          exact (HLS.out y (List.mem_of_mem_take hy)).2.1.2)
        have hl : (prE (D.take k)).length ≤ 16384 := by simp [prE]; omega
        rw [List.length_append, List.length_append]
        have h1 : (dls (es.take t)).length ≤ 64 := by simp [dls]; omega
        have h2 : (cls (es.take t)).length ≤ 64 := by simp [cls]; omega
        omega)
      have HLN0 := HLM
      clear HLM
      go_enter Try.func43, Try.ntmps43
      go_wp2_with fail
      clear c2
      go_loopw [9, 7, 8] (fun i dv cv wr => ∃ (k : Nat) (vd vc : Value), k ≤ D.length ∧ i = .int .i64 (k : Int) ∧ vd = dv ∧ vc = cv ∧ Hid (OwnN wr vd (dlst per (prE (D.take k)))) ∧ Hid (OwnN wr vc (clst per (prE (D.take k)))) ∧ Hid (∀ q, vd.ownBlock = some q → w.heap.size ≤ q ∧ vc.ownBlock ≠ some q) ∧ Hid (∀ q, vc.ownBlock = some q → w.heap.size ≤ q) ∧ Hid (Only (fun _ => False) w wr)) (fun i _ _ _ => D.length - (intOf i).toNat)
      case atStart => exact ⟨0, _, _, by omega, rfl, rfl, rfl, Lib.hid (World.ownsRow_nil _ _ _ _), Lib.hid (World.ownsRow_nil _ _ _ _), Lib.hid (fun q e => by cases e), Lib.hid (fun q e => by cases e), Lib.hid (Only.refl _ _)⟩
      case round =>
        obtain ⟨k, vd0, vc0, hk, rfl, rfl, rfl, HDO, HCO, HDA, HCA, HW⟩ := hrel
        rename World => wr
        have c0 := (HDJ.out wr HW.out).c0
        have c1 := (HDJ.out wr HW.out).c1
        by_cases h8 : k < D.length
        · have hin : (k : Int) < (D.length : Int) := by omega
          have hk0 : (0 : Int) ≤ (k : Int) := by omega
          obtain ⟨gL, rfl⟩ : ∃ g, aL = some ⟨g, 0, none⟩ := by
            rcases own_form (HDJ.out wr HW.out).oL with ⟨hv, h0⟩ | ⟨g, cap, hv, _⟩
            · omega
            · injection hv with hv; exact ⟨g, hv⟩
          have hwl : (whens D).length = D.length := by simp [whens]
          obtain ⟨gW, rfl⟩ : ∃ g, aW = some ⟨g, 0, none⟩ := by
            rcases own_form (HDJ.out wr HW.out).oW with ⟨hv, h0⟩ | ⟨g, cap, hv, _⟩
            · omega
            · injection hv with hv; exact ⟨g, hv⟩
          have cw : wr.cell? ⟨gW, k, none⟩ = some (.int .i64 ((D.getD k default).per : Int)) := by
            have h := (HDJ.out wr HW.out).oW.cell (i := k) (by rw [hwl]; exact h8) hwl.symm
            rw [h]
            simp [whens, List.getD, h8]
          have HDT := Lib.hid (dlst_take (per := per) h8)
          have HCT := Lib.hid (clst_take (per := per) h8)
          have hmem : D.getD k default ∈ D := by rw [List.getD_eq_getElem?_getD, List.getElem?_eq_getElem h8]; exact List.getElem_mem h8
          have HLE := Lib.hid (fun w' ho => ((HDJ.out w' ho).oL.cell h8 rfl).2)
          have HLR := Lib.hid (fun w' ho => ((HDJ.out w' ho).ls _ hmem).1)
          have HCH := Lib.hid (HLS.out _ hmem)
          obtain ⟨⟨ek, ea, en, ec, ep, es⟩, he⟩ : ∃ x, D.getD k default = x := ⟨_, rfl⟩
          rw [he] at cw HDT HCT HLE HLR HCH
          dsimp only at cw HDT HCT HLE HLR HCH
          clear hmem he hwl
          by_cases hsk : 0 ≤ per ∧ (ep : Int) ≠ per
          · have HD1 : Hid (OwnN wr vd0 (dlst per (prE (D.take (k + 1))))) := Lib.hid (by rw [HDT.out, if_pos hsk, List.append_nil]; exact HDO.out)
            have HC1 : Hid (OwnN wr vc0 (clst per (prE (D.take (k + 1))))) := Lib.hid (by rw [HCT.out, if_pos hsk, List.append_nil]; exact HCO.out)
            obtain ⟨hs1, hs2⟩ := hsk
            have hb2 : ((ep : Int) != per) = true := by simpa using hs2
            clear hs2
            go_wp2_with fail
            go_roundw
            case rel => exact ⟨k + 1, _, _, by omega, by go_num, rfl, rfl, HD1, HC1, HDA, HCA, HW⟩
            case measure => (simp [intOf]; omega)
          · have hsk0 := hsk
            have hsk' : per < 0 ∨ (0 ≤ per ∧ (ep : Int) = per) := by omega
            have HEN : Hid (es.length = en) := Lib.hid (HLR.out wr HW.out).1
            have hen64 : en ≤ 64 := by have := HCH.out.2.1; have := HEN.out; omega
            have HAB : Hid (∀ l ∈ es, amtB l.a = true) := Lib.hid (fun l hl => (HCH.out.2.2.1 l hl).2)
            have HLM : Hid (∀ t, t < en → (dlst per (prE (D.take k)) ++ dls (es.take t)).length ≤ 2000000 ∧ (clst per (prE (D.take k)) ++ cls (es.take t)).length ≤ 2000000) := Lib.hid (fun t ht => HLN0.out k t (by omega) (by omega) es (by rw [HEN.out]; exact hen64))
            clear hsk
            rcases hsk' with hneg | ⟨hpos, heq⟩
            · have hng0 : ¬ 0 ≤ per := by omega
              have HDF : Hid (dlst per (prE (D.take (k + 1))) = dlst per (prE (D.take k)) ++ dls es) := Lib.hid (by rw [HDT.out, if_neg hsk0])
              have HCF : Hid (clst per (prE (D.take (k + 1))) = clst per (prE (D.take k)) ++ cls es) := Lib.hid (by rw [HCT.out, if_neg hsk0])
              clear HDT HCT
              go_wp2_with fail
              clear c0 c1 cw
              go_loopw [10, 7, 8] (fun j dv cv wx => ∃ (t : Nat) (vd vc : Value), t ≤ en ∧ j = .int .i64 (t : Int) ∧ vd = dv ∧ vc = cv ∧ Hid (OwnN wx vd (dlst per (prE (D.take k)) ++ dls (es.take t))) ∧ Hid (OwnN wx vc (clst per (prE (D.take k)) ++ cls (es.take t))) ∧ Hid (∀ q, vd.ownBlock = some q → w.heap.size ≤ q ∧ vc.ownBlock ≠ some q) ∧ Hid (∀ q, vc.ownBlock = some q → w.heap.size ≤ q) ∧ Hid (Only (fun _ => False) w wx)) (fun j _ _ _ => en - (intOf j).toNat)
              case atStart => exact ⟨0, _, _, by omega, rfl, rfl, rfl, Lib.hid (by simpa [dls] using HDO.out), Lib.hid (by simpa [cls] using HCO.out), HDA.out |> Lib.hid, HCA.out |> Lib.hid, HW⟩
              case round =>
                obtain ⟨t, vd, vc, ht, rfl, rfl, rfl, HD2, HC2, HA2, HB2, HX⟩ := hrel
                rename World => wx
                have c0 := (HDJ.out wx HX.out).c0
                have c2 := HLE.out wx HX.out
                by_cases ht8 : t < en
                · have hti : (t : Int) < (en : Int) := by omega
                  have ht0 : (0 : Int) ≤ (t : Int) := by omega
                  obtain ⟨b, off, rfl, hcell⟩ := (HLR.out wx HX.out).2.2.2.resolve_left (by omega)
                  obtain ⟨-, -, -, y3⟩ := hcell t ht8
                  have hab := HAB.out _ (getL_mem es t (by rw [HEN.out]; exact ht8))
                  have HDS := Lib.hid (dls_take (ls := es) (k := t) (by rw [HEN.out]; exact ht8))
                  have HCS := Lib.hid (cls_take (ls := es) (k := t) (by rw [HEN.out]; exact ht8))
                  have HL1 := Lib.hid (HLM.out t ht8)
                  obtain ⟨la, hla⟩ : ∃ x, (es.getD t default).a = x := ⟨_, rfl⟩
                  rw [hla] at y3 hab HDS HCS
                  obtain ⟨d1, hd1⟩ : ∃ x, max la 0 = x := ⟨_, rfl⟩
                  obtain ⟨e1, he1⟩ : ∃ x, max (-la) 0 = x := ⟨_, rfl⟩
                  have hng : wrap64 (-la) = -la := by have := amt_bound hab; unfold wrap64; omega
                  rw [hd1] at HDS
                  rw [he1] at HCS
                  clear hcell hla hab
                  obtain ⟨dd, hdd⟩ : ∃ x, x = dlst per (prE (D.take k)) ++ dls (es.take t) := ⟨_, rfl⟩
                  obtain ⟨cc, hcc⟩ : ∃ x, x = clst per (prE (D.take k)) ++ cls (es.take t) := ⟨_, rfl⟩
                  have HDD : Hid (dlst per (prE (D.take k)) ++ dls (es.take (t + 1)) = dd ++ [d1]) := Lib.hid (by rw [HDS.out, hdd, List.append_assoc])
                  have HCC : Hid (clst per (prE (D.take k)) ++ cls (es.take (t + 1)) = cc ++ [e1]) := Lib.hid (by rw [HCS.out, hcc, List.append_assoc])
                  have hdl : dd.length ≤ 2000000 := by rw [hdd]; exact HL1.out.1
                  have hcl : cc.length ≤ 2000000 := by rw [hcc]; exact HL1.out.2
                  rw [← hdd] at HD2
                  rw [← hcc] at HC2
                  clear hdd hcc HDS HCS HL1
                  have HPd : Hid ((wx.alloc (.cells #[.int .i64 d1] 3)).ownsRow 0 3 1 vd dd.length (iv dd)) := Lib.hid (owns_only (S := fun _ => False) ((Only.refl _ wx).alloc _) HD2.out (fun _ _ f => f))
                  go_wp2_with (at_builtin; refine append_mine rfl _ _ 22 rfl 3 i0 _ 1 8 Try.underlying22 hi hz0 hz1 hz2 rfl (by decide) _ dd.length (iv dd) rfl HPd.out ⟨wx.heap.size, 0, none⟩ 1 1 (iv [d1]) rfl ?f1a ?f2a ?f3a ?f4a ?f5a ?_)
                  case f1a => rfl
                  case f2a => exact news_i rfl _
                  case f3a => exact iv_one1 d1
                  case f4a => unfold maxLen; omega
                  case f5a => omega
                  intro v1 w1 hown hgrow hkk
                  obtain ⟨g1, k1, rfl, -⟩ := owns_form hown (by omega)
                  have hgo := Only.of_grown hgrow
                  have HOD : Hid (OwnN w1 (.slice (some ⟨g1, 0, none⟩) (dd.length + 1) k1) (dd ++ [d1])) := Lib.hid (own_snoc hown)
                  have HW1 : Hid (Only (fun q => vd.ownBlock = some q) wx w1) := Lib.hid ((((Only.refl (fun _ => False) wx).alloc _).mono (fun _ _ f => f.elim)).trans hgo)
                  have HK1 : Hid (∀ q, (.slice (some ⟨g1, 0, none⟩) (dd.length + 1) k1 : Value).ownBlock = some q → vd.ownBlock = some q ∨ wx.heap.size ≤ q) := Lib.hid (fun q e => (hkk q e).imp (fun x => x) (fun e2 => by omega))
                  have HO1 : Hid (Only (fun _ => False) w w1) := Lib.hid (HX.out.then HW1.out (fun q hq e => by have := (HA2.out q e).1; omega))
                  have HC3 : Hid (OwnN w1 vc cc) := Lib.hid (owns_only HW1.out HC2.out (fun q e f => (HA2.out q f).2 e))
                  have HCL : Hid (∀ q, vc.ownBlock = some q → q < wx.heap.size) := Lib.hid (fun q e => own_lt HC2.out e)
                  have HPc : Hid ((w1.alloc (.cells #[.int .i64 e1] 3)).ownsRow 0 3 1 vc cc.length (iv cc)) := Lib.hid (owns_only (S := fun _ => False) ((Only.refl _ w1).alloc _) HC3.out (fun _ _ f => f))
                  have HS1 : Hid (wx.heap.size ≤ w1.heap.size) := Lib.hid HW1.out.size
                  clear hown hgrow hkk hgo HPd c0 c2 y3 hd1
                  go_wp2_with (at_builtin; refine append_mine rfl _ _ 22 rfl 3 i0 _ 1 8 Try.underlying22 hi hz0 hz1 hz2 rfl (by decide) _ cc.length (iv cc) rfl HPc.out ⟨w1.heap.size, 0, none⟩ 1 1 (iv [e1]) rfl ?h1a ?h2a ?h3a ?h4a ?h5a ?_)
                  case h1a => rfl
                  case h2a => exact news_i rfl _
                  case h3a => exact iv_one1 e1
                  case h4a => unfold maxLen; omega
                  case h5a => omega
                  intro v2 w2 hown hgrow hkk
                  obtain ⟨g2, k2, rfl, -⟩ := owns_form hown (by omega)
                  have hgo := Only.of_grown hgrow
                  have HOC : Hid (OwnN w2 (.slice (some ⟨g2, 0, none⟩) (cc.length + 1) k2) (clst per (prE (D.take k)) ++ cls (es.take (t + 1)))) := Lib.hid (by rw [HCC.out]; exact own_snoc hown)
                  have HW2 : Hid (Only (fun q => vc.ownBlock = some q) w1 w2) := Lib.hid ((((Only.refl (fun _ => False) w1).alloc _).mono (fun _ _ f => f.elim)).trans hgo)
                  have HK2 : Hid (∀ q, (.slice (some ⟨g2, 0, none⟩) (cc.length + 1) k2 : Value).ownBlock = some q → vc.ownBlock = some q ∨ w1.heap.size ≤ q) := Lib.hid (fun q e => (hkk q e).imp (fun x => x) (fun e2 => by omega))
                  have HO2 : Hid (Only (fun _ => False) w w2) := Lib.hid (HO1.out.then HW2.out (fun q hq e => by have := HB2.out q e; omega))
                  have HSX : Hid (w.heap.size ≤ wx.heap.size) := Lib.hid HX.out.size
                  have HD1L : Hid (∀ q, (.slice (some ⟨g1, 0, none⟩) (dd.length + 1) k1 : Value).ownBlock = some q → q < w1.heap.size) := Lib.hid (fun q e => own_lt HOD.out e)
                  have HOD2 : Hid (OwnN w2 (.slice (some ⟨g1, 0, none⟩) (dd.length + 1) k1) (dlst per (prE (D.take k)) ++ dls (es.take (t + 1)))) := Lib.hid (by
                    rw [HDD.out]
                    refine owns_only HW2.out HOD.out (fun q e f => ?_)
                    rcases HK1.out q e with h | h
                    · exact (HA2.out q h).2 f
                    · have := HCL.out q f; omega)
                  have HA3 : Hid (∀ q, (.slice (some ⟨g1, 0, none⟩) (dd.length + 1) k1 : Value).ownBlock = some q → w.heap.size ≤ q ∧ (.slice (some ⟨g2, 0, none⟩) (cc.length + 1) k2 : Value).ownBlock ≠ some q) := Lib.hid (fun q e => ⟨by
                    rcases HK1.out q e with h | h
                    · exact (HA2.out q h).1
                    · have := HSX.out; omega, fun f => by
                    rcases HK2.out q f with h | h
                    · rcases HK1.out q e with h2 | h2
                      · exact (HA2.out q h2).2 h
                      · have := HCL.out q h; omega
                    · have := HD1L.out q e; omega⟩)
                  have HB3 : Hid (∀ q, (.slice (some ⟨g2, 0, none⟩) (cc.length + 1) k2 : Value).ownBlock = some q → w.heap.size ≤ q) := Lib.hid (fun q e => by
                    rcases HK2.out q e with h | h
                    · exact HB2.out q h
                    · have := HSX.out; have := HS1.out; omega)
                  clear hown hgrow hkk hgo HPc he1 hng
                  go_wp2_with fail
                  go_roundw
                  case rel => exact ⟨t + 1, _, _, by omega, by go_num, rfl, rfl, HOD2, HOC, HA3, HB3, HO2⟩
                  case measure => (simp [intOf]; omega)
                · have hti : ¬ (t : Int) < (en : Int) := by omega
                  obtain rfl : en = t := by omega
                  have hfull : es.take en = es := List.take_of_length_le (by rw [HEN.out]; omega)
                  have HD3 : Hid (OwnN wx vd (dlst per (prE (D.take (k + 1))))) := Lib.hid (by have h := HD2.out; rw [hfull] at h; rw [HDF.out]; exact h)
                  have HC3 : Hid (OwnN wx vc (clst per (prE (D.take (k + 1))))) := Lib.hid (by have h := HC2.out; rw [hfull] at h; rw [HCF.out]; exact h)
                  clear hfull
                  go_wp2_with fail
                  go_roundw
                  case rel => exact ⟨k + 1, _, _, by omega, by go_num, rfl, rfl, HD3, HC3, HA2, HB2, HX⟩
                  case measure => (simp [intOf]; omega)
            · have hb2 : ((ep : Int) != per) = false := by simpa using heq
              have HDF : Hid (dlst per (prE (D.take (k + 1))) = dlst per (prE (D.take k)) ++ dls es) := Lib.hid (by rw [HDT.out, if_neg hsk0])
              have HCF : Hid (clst per (prE (D.take (k + 1))) = clst per (prE (D.take k)) ++ cls es) := Lib.hid (by rw [HCT.out, if_neg hsk0])
              clear HDT HCT
              go_wp2_with fail
              clear c0 c1 cw
              go_loopw [10, 7, 8] (fun j dv cv wx => ∃ (t : Nat) (vd vc : Value), t ≤ en ∧ j = .int .i64 (t : Int) ∧ vd = dv ∧ vc = cv ∧ Hid (OwnN wx vd (dlst per (prE (D.take k)) ++ dls (es.take t))) ∧ Hid (OwnN wx vc (clst per (prE (D.take k)) ++ cls (es.take t))) ∧ Hid (∀ q, vd.ownBlock = some q → w.heap.size ≤ q ∧ vc.ownBlock ≠ some q) ∧ Hid (∀ q, vc.ownBlock = some q → w.heap.size ≤ q) ∧ Hid (Only (fun _ => False) w wx)) (fun j _ _ _ => en - (intOf j).toNat)
              case atStart => exact ⟨0, _, _, by omega, rfl, rfl, rfl, Lib.hid (by simpa [dls] using HDO.out), Lib.hid (by simpa [cls] using HCO.out), HDA.out |> Lib.hid, HCA.out |> Lib.hid, HW⟩
              case round =>
                obtain ⟨t, vd, vc, ht, rfl, rfl, rfl, HD2, HC2, HA2, HB2, HX⟩ := hrel
                rename World => wx
                have c0 := (HDJ.out wx HX.out).c0
                have c2 := HLE.out wx HX.out
                by_cases ht8 : t < en
                · have hti : (t : Int) < (en : Int) := by omega
                  have ht0 : (0 : Int) ≤ (t : Int) := by omega
                  obtain ⟨b, off, rfl, hcell⟩ := (HLR.out wx HX.out).2.2.2.resolve_left (by omega)
                  obtain ⟨-, -, -, y3⟩ := hcell t ht8
                  have hab := HAB.out _ (getL_mem es t (by rw [HEN.out]; exact ht8))
                  have HDS := Lib.hid (dls_take (ls := es) (k := t) (by rw [HEN.out]; exact ht8))
                  have HCS := Lib.hid (cls_take (ls := es) (k := t) (by rw [HEN.out]; exact ht8))
                  have HL1 := Lib.hid (HLM.out t ht8)
                  obtain ⟨la, hla⟩ : ∃ x, (es.getD t default).a = x := ⟨_, rfl⟩
                  rw [hla] at y3 hab HDS HCS
                  obtain ⟨d1, hd1⟩ : ∃ x, max la 0 = x := ⟨_, rfl⟩
                  obtain ⟨e1, he1⟩ : ∃ x, max (-la) 0 = x := ⟨_, rfl⟩
                  have hng : wrap64 (-la) = -la := by have := amt_bound hab; unfold wrap64; omega
                  rw [hd1] at HDS
                  rw [he1] at HCS
                  clear hcell hla hab
                  obtain ⟨dd, hdd⟩ : ∃ x, x = dlst per (prE (D.take k)) ++ dls (es.take t) := ⟨_, rfl⟩
                  obtain ⟨cc, hcc⟩ : ∃ x, x = clst per (prE (D.take k)) ++ cls (es.take t) := ⟨_, rfl⟩
                  have HDD : Hid (dlst per (prE (D.take k)) ++ dls (es.take (t + 1)) = dd ++ [d1]) := Lib.hid (by rw [HDS.out, hdd, List.append_assoc])
                  have HCC : Hid (clst per (prE (D.take k)) ++ cls (es.take (t + 1)) = cc ++ [e1]) := Lib.hid (by rw [HCS.out, hcc, List.append_assoc])
                  have hdl : dd.length ≤ 2000000 := by rw [hdd]; exact HL1.out.1
                  have hcl : cc.length ≤ 2000000 := by rw [hcc]; exact HL1.out.2
                  rw [← hdd] at HD2
                  rw [← hcc] at HC2
                  clear hdd hcc HDS HCS HL1
                  have HPd : Hid ((wx.alloc (.cells #[.int .i64 d1] 3)).ownsRow 0 3 1 vd dd.length (iv dd)) := Lib.hid (owns_only (S := fun _ => False) ((Only.refl _ wx).alloc _) HD2.out (fun _ _ f => f))
                  go_wp2_with (at_builtin; refine append_mine rfl _ _ 22 rfl 3 i0 _ 1 8 Try.underlying22 hi hz0 hz1 hz2 rfl (by decide) _ dd.length (iv dd) rfl HPd.out ⟨wx.heap.size, 0, none⟩ 1 1 (iv [d1]) rfl ?f1b ?f2b ?f3b ?f4b ?f5b ?_)
                  case f1b => rfl
                  case f2b => exact news_i rfl _
                  case f3b => exact iv_one1 d1
                  case f4b => unfold maxLen; omega
                  case f5b => omega
                  intro v1 w1 hown hgrow hkk
                  obtain ⟨g1, k1, rfl, -⟩ := owns_form hown (by omega)
                  have hgo := Only.of_grown hgrow
                  have HOD : Hid (OwnN w1 (.slice (some ⟨g1, 0, none⟩) (dd.length + 1) k1) (dd ++ [d1])) := Lib.hid (own_snoc hown)
                  have HW1 : Hid (Only (fun q => vd.ownBlock = some q) wx w1) := Lib.hid ((((Only.refl (fun _ => False) wx).alloc _).mono (fun _ _ f => f.elim)).trans hgo)
                  have HK1 : Hid (∀ q, (.slice (some ⟨g1, 0, none⟩) (dd.length + 1) k1 : Value).ownBlock = some q → vd.ownBlock = some q ∨ wx.heap.size ≤ q) := Lib.hid (fun q e => (hkk q e).imp (fun x => x) (fun e2 => by omega))
                  have HO1 : Hid (Only (fun _ => False) w w1) := Lib.hid (HX.out.then HW1.out (fun q hq e => by have := (HA2.out q e).1; omega))
                  have HC3 : Hid (OwnN w1 vc cc) := Lib.hid (owns_only HW1.out HC2.out (fun q e f => (HA2.out q f).2 e))
                  have HCL : Hid (∀ q, vc.ownBlock = some q → q < wx.heap.size) := Lib.hid (fun q e => own_lt HC2.out e)
                  have HPc : Hid ((w1.alloc (.cells #[.int .i64 e1] 3)).ownsRow 0 3 1 vc cc.length (iv cc)) := Lib.hid (owns_only (S := fun _ => False) ((Only.refl _ w1).alloc _) HC3.out (fun _ _ f => f))
                  have HS1 : Hid (wx.heap.size ≤ w1.heap.size) := Lib.hid HW1.out.size
                  clear hown hgrow hkk hgo HPd c0 c2 y3 hd1
                  go_wp2_with (at_builtin; refine append_mine rfl _ _ 22 rfl 3 i0 _ 1 8 Try.underlying22 hi hz0 hz1 hz2 rfl (by decide) _ cc.length (iv cc) rfl HPc.out ⟨w1.heap.size, 0, none⟩ 1 1 (iv [e1]) rfl ?h1b ?h2b ?h3b ?h4b ?h5b ?_)
                  case h1b => rfl
                  case h2b => exact news_i rfl _
                  case h3b => exact iv_one1 e1
                  case h4b => unfold maxLen; omega
                  case h5b => omega
                  intro v2 w2 hown hgrow hkk
                  obtain ⟨g2, k2, rfl, -⟩ := owns_form hown (by omega)
                  have hgo := Only.of_grown hgrow
                  have HOC : Hid (OwnN w2 (.slice (some ⟨g2, 0, none⟩) (cc.length + 1) k2) (clst per (prE (D.take k)) ++ cls (es.take (t + 1)))) := Lib.hid (by rw [HCC.out]; exact own_snoc hown)
                  have HW2 : Hid (Only (fun q => vc.ownBlock = some q) w1 w2) := Lib.hid ((((Only.refl (fun _ => False) w1).alloc _).mono (fun _ _ f => f.elim)).trans hgo)
                  have HK2 : Hid (∀ q, (.slice (some ⟨g2, 0, none⟩) (cc.length + 1) k2 : Value).ownBlock = some q → vc.ownBlock = some q ∨ w1.heap.size ≤ q) := Lib.hid (fun q e => (hkk q e).imp (fun x => x) (fun e2 => by omega))
                  have HO2 : Hid (Only (fun _ => False) w w2) := Lib.hid (HO1.out.then HW2.out (fun q hq e => by have := HB2.out q e; omega))
                  have HSX : Hid (w.heap.size ≤ wx.heap.size) := Lib.hid HX.out.size
                  have HD1L : Hid (∀ q, (.slice (some ⟨g1, 0, none⟩) (dd.length + 1) k1 : Value).ownBlock = some q → q < w1.heap.size) := Lib.hid (fun q e => own_lt HOD.out e)
                  have HOD2 : Hid (OwnN w2 (.slice (some ⟨g1, 0, none⟩) (dd.length + 1) k1) (dlst per (prE (D.take k)) ++ dls (es.take (t + 1)))) := Lib.hid (by
                    rw [HDD.out]
                    refine owns_only HW2.out HOD.out (fun q e f => ?_)
                    rcases HK1.out q e with h | h
                    · exact (HA2.out q h).2 f
                    · have := HCL.out q f; omega)
                  have HA3 : Hid (∀ q, (.slice (some ⟨g1, 0, none⟩) (dd.length + 1) k1 : Value).ownBlock = some q → w.heap.size ≤ q ∧ (.slice (some ⟨g2, 0, none⟩) (cc.length + 1) k2 : Value).ownBlock ≠ some q) := Lib.hid (fun q e => ⟨by
                    rcases HK1.out q e with h | h
                    · exact (HA2.out q h).1
                    · have := HSX.out; omega, fun f => by
                    rcases HK2.out q f with h | h
                    · rcases HK1.out q e with h2 | h2
                      · exact (HA2.out q h2).2 h
                      · have := HCL.out q h; omega
                    · have := HD1L.out q e; omega⟩)
                  have HB3 : Hid (∀ q, (.slice (some ⟨g2, 0, none⟩) (cc.length + 1) k2 : Value).ownBlock = some q → w.heap.size ≤ q) := Lib.hid (fun q e => by
                    rcases HK2.out q e with h | h
                    · exact HB2.out q h
                    · have := HSX.out; have := HS1.out; omega)
                  clear hown hgrow hkk hgo HPc he1 hng
                  go_wp2_with fail
                  go_roundw
                  case rel => exact ⟨t + 1, _, _, by omega, by go_num, rfl, rfl, HOD2, HOC, HA3, HB3, HO2⟩
                  case measure => (simp [intOf]; omega)
                · have hti : ¬ (t : Int) < (en : Int) := by omega
                  obtain rfl : en = t := by omega
                  have hfull : es.take en = es := List.take_of_length_le (by rw [HEN.out]; omega)
                  have HD3 : Hid (OwnN wx vd (dlst per (prE (D.take (k + 1))))) := Lib.hid (by have h := HD2.out; rw [hfull] at h; rw [HDF.out]; exact h)
                  have HC3 : Hid (OwnN wx vc (clst per (prE (D.take (k + 1))))) := Lib.hid (by have h := HC2.out; rw [hfull] at h; rw [HCF.out]; exact h)
                  clear hfull
                  go_wp2_with fail
                  go_roundw
                  case rel => exact ⟨k + 1, _, _, by omega, by go_num, rfl, rfl, HD3, HC3, HA2, HB2, HX⟩
                  case measure => (simp [intOf]; omega)
        · have hin : ¬ (k : Int) < (D.length : Int) := by omega
          obtain rfl : k = D.length := by omega
          have hdo := HDO.out
          have hco := HCO.out
          rw [List.take_length] at hdo hco
          have hin53 := dlst_in per (prE D) (fun x hx l hl => by
            obtain ⟨y, hy, rfl⟩ := List.mem_map.1 hx
            exact ((HLS.out y hy).2.2.1 l hl).2)
          have hll := HLN0.out D.length 0 (Nat.le_refl _) (by omega) [] (by simp)
          rw [List.take_length] at hll
          simp only [dls, cls, List.take_nil, List.map_nil, List.append_nil] at hll
          obtain ⟨ad, cd, rfl, hrd⟩ := hdo.readsI hin53.1 hll.1
          obtain ⟨ac, cc, rfl, hrc⟩ := hco.readsI hin53.2 hll.2
          have HS1 := Lib.hid (rsum_any ad (dlst per (prE D)).length cd (dlst per (prE D)) wr hrd)
          have HRC := Lib.hid hrc
          clear hdo hco hin53 hll hrd hrc HDO HCO HDA HCA
          go_wp2_with fail
          refine HS1.out.mono ?_
          rintro _ w3 ⟨rfl, ho⟩
          have HW3 := Lib.hid (HW.out.trans ho)
          have HS2 := Lib.hid (rsum_any ac (clst per (prE D)).length cc (clst per (prE D)) w3 (HRC.out.only ho (fun _ _ f => f)))
          clear ho HS1 c0 c1
          by_cases hb1 : isInt (dlst per (prE D)).sum = true
          · rw [hb1]
            have HI1 : Hid (intOr (dlst per (prE D)).sum = (dlst per (prE D)).sum) := Lib.hid (by unfold intOr; rw [hb1]; rfl)
            by_cases hb2 : isInt (clst per (prE D)).sum = true
            · have HI2 : Hid (intOr (clst per (prE D)).sum = (clst per (prE D)).sum) := Lib.hid (by unfold intOr; rw [hb2]; rfl)
              have HB := Lib.hid (And.intro hb1 hb2)
              rw [HI1.out]
              rw [hb2, HI2.out] at HS2
              clear hb1 hb2
              go_wp2_with fail
              refine HS2.out.mono ?_
              rintro _ w4 ⟨rfl, ho⟩
              have HW4 := Lib.hid (HW3.out.trans ho)
              clear ho HS2
              go_wp2_with fail
              go_ret3
              exact HES.out _ HW4.out HB.out
            · have hb2' : isInt (clst per (prE D)).sum = false := by cases h : isInt (clst per (prE D)).sum <;> simp_all
              have HB : Hid (¬ (isInt (dlst per (prE D)).sum = true ∧ isInt (clst per (prE D)).sum = true)) := Lib.hid (fun h => hb2 h.2)
              rw [hb2'] at HS2
              clear hb1 hb2 hb2'
              go_wp2_with fail
              refine HS2.out.mono ?_
              rintro _ w4 ⟨rfl, ho⟩
              have HW4 := Lib.hid (HW3.out.trans ho)
              clear ho HS2
              go_wp2_with fail
              go_ret3
              exact HEN0.out _ HW4.out HB.out
          · have hb1' : isInt (dlst per (prE D)).sum = false := by cases h : isInt (dlst per (prE D)).sum <;> simp_all
            have HB : Hid (¬ (isInt (dlst per (prE D)).sum = true ∧ isInt (clst per (prE D)).sum = true)) := Lib.hid (fun h => hb1 h.1)
            rw [hb1']
            clear hb1 hb1'
            go_wp2_with fail
            refine HS2.out.mono ?_
            rintro _ w4 ⟨rfl, ho⟩
            have HW4 := Lib.hid (HW3.out.trans ho)
            clear ho HS2
            go_wp2_with fail
            go_ret3
            exact HEN0.out _ HW4.out HB.out
end Go.Proofs.Ytdjiljkdnpmilaa.jnw

namespace Go.Proofs.Ytdjiljkdnpmilaa.jnw
open Go.RowKit mem accm accn entw entm acck bigw intm
set_option linter.unusedVariables false

structure Lk (op : Nat) (C : Ac → Option (List Int)) (L : List Ps) (D : List Es) : Prop where
  e : prP L = prE D
  v : ∀ a p, p < 32 → ((C a).getD noughts).getD p 0 = wrap64 (movD a (p : Int) D)
  s : ∀ a, (C a).isSome = thD a D
  le : ∀ x ∈ D, x.per ≤ op
theorem wrap_zero : wrap64 0 = 0 := by unfold wrap64; omega
theorem Lk.nil (op : Nat) : Lk op (fun _ => none) [] [] := ⟨rfl, fun a p hp => by rw [show movD a (p : Int) [] = 0 from rfl, wrap_zero]; exact rep_get 32 p, fun a => rfl, fun x hx => by cases hx⟩
theorem Lk.close {op : Nat} {C : Ac → Option (List Int)} {L : List Ps} {D : List Es} (h : Lk op C L D) : Lk (op + 1) C L D := ⟨h.e, h.v, h.s, fun x hx => by have := h.le x hx; omega⟩
theorem addC_get (op : Nat) (hop : op < 32) : ∀ (ls : List Lg) (C : Ac → Option (List Int)) (F : Ac → Nat → Int), (∀ a, ((C a).getD noughts).length = 32) → (∀ a p, p < 32 → ((C a).getD noughts).getD p 0 = wrap64 (F a p)) → ∀ a p, p < 32 → ((addC C op ls a).getD noughts).getD p 0 = wrap64 (F a p + if p = op then legSum a ls else 0) := by
  intro ls
  induction ls with
  | nil => intro C F _ h a p hp; simpa [addC, legSum] using h a p hp
  | cons l r ih =>
    intro C F hl h a p hp
    have h1 := ih (updA C (lgA l) (rowAdd ((C (lgA l)).getD noughts) op l.a)) (fun a p => F a p + if p = op ∧ lgA l = a then l.a else 0) (updA_len hl (lgA l) op l.a) (fun b q hq => by
      unfold updA
      by_cases e : b = lgA l
      · subst e
        rw [if_pos rfl]
        show (rowAdd _ op l.a).getD q 0 = _
        unfold rowAdd
        by_cases e2 : q = op
        · subst e2
          have hlen := hl (lgA l)
          rw [if_pos ⟨rfl, rfl⟩]
          have hv := h (lgA l) q hq
          rw [List.getD_eq_getElem?_getD, List.getElem?_set_self (by omega)]
          rw [hv]
          show wrap64 (wrap64 _ + l.a) = _
          unfold wrap64
          omega
        · rw [if_neg (fun x => e2 x.1), Int.add_zero, ← h (lgA l) q hq]
          simp only [List.getD]
          rw [List.getElem?_set_ne (fun x => e2 x.symm)]
      · rw [if_neg e, if_neg (fun x => e x.2.symm), Int.add_zero]
        exact h b q hq) a p hp
    show ((addC _ op r a).getD noughts).getD p 0 = _
    rw [h1]
    congr 1
    show F a p + _ + _ = F a p + if p = op then (if lgA l = a then l.a else 0) + legSum a r else 0
    by_cases e : p = op
    · simp only [e, true_and, if_true]; omega
    · simp only [e, false_and, if_false]; omega
theorem addC_some (op : Nat) : ∀ (ls : List Lg) (C : Ac → Option (List Int)) (a : Ac), (addC C op ls a).isSome = ((C a).isSome || thL a ls) := by
  intro ls
  induction ls with
  | nil => intro C a; simp [addC, thL]
  | cons l r ih =>
    intro C a
    show (addC _ op r a).isSome = _
    rw [ih]
    unfold updA thL
    by_cases e : a = lgA l
    · rw [if_pos e]; simp [e]
    · rw [if_neg e]
      have : decide (lgA l = a) = false := decide_eq_false (fun x => e x.symm)
      rw [List.any_cons, this, Bool.false_or]
theorem Lk.add {op : Nat} (hop : op < 32) {C : Ac → Option (List Int)} {L : List Ps} {D : List Es} (h : Lk op C L D) (hr : ∀ a, ((C a).getD noughts).length = 32) (ls : List Lg) (kd : Int) (g n cp : Nat) (a2 : Option Addr) (n2 c2 : Nat) :
    Lk op (addC C op ls) (L ++ [⟨kd, g, n, cp, op, ls⟩]) (D ++ [⟨kd, a2, n2, c2, op, ls⟩]) := by
  refine ⟨?_, fun a p hp => ?_, fun a => ?_, fun x hx => ?_⟩
  · have := h.e
    unfold prP prE at this ⊢
    rw [List.map_append, List.map_append, this]
    rfl
  · rw [addC_get op hop ls C (fun a p => movD a (p : Int) D) hr h.v a p hp, movD_append]
    congr 1
    show _ = movD a (p : Int) D + ((if 0 ≤ (p : Int) ∧ (op : Int) ≠ (p : Int) then 0 else legSum a ls) + 0)
    by_cases e : p = op
    · rw [if_pos e, if_neg (by omega)]; omega
    · rw [if_neg e, if_pos (by omega)]; omega
  · rw [addC_some, h.s]
    simp [thD]
  · rcases List.mem_append.1 hx with hx | hx
    · exact h.le x hx
    · rw [List.mem_singleton.1 hx]; exact Nat.le_refl _

def sumN (f : Nat → Int) : Nat → Int
  | 0 => 0
  | n + 1 => sumN f n + f n
theorem sumN_take (r : List Int) : ∀ k, k ≤ r.length → (r.take k).sum = sumN (fun p => r.getD p 0) k
  | 0, _ => by simp [sumN]
  | k + 1, h => by
    rw [List.take_succ_eq_append_getElem h, List.sum_append, sumN_take r k (by omega)]
    show _ = sumN _ k + r.getD k 0
    have : r.getD k 0 = r[k] := by simp [List.getD, show k < r.length by omega]
    rw [this]
    simp
theorem sumN_mod {f g : Nat → Int} : ∀ n, (∀ p, p < n → (f p - g p) % 18446744073709551616 = 0) → (sumN f n - sumN g n) % 18446744073709551616 = 0
  | 0, _ => by simp [sumN]
  | n + 1, h => by
    have h1 := sumN_mod n (fun p hp => h p (by omega))
    have h2 := h n (by omega)
    show (sumN f n + f n - (sumN g n + g n)) % _ = 0
    omega
theorem sumN_add (f g : Nat → Int) : ∀ n, sumN (fun p => f p + g p) n = sumN f n + sumN g n
  | 0 => rfl
  | n + 1 => by
    show sumN (fun p => f p + g p) n + (f n + g n) = sumN f n + f n + (sumN g n + g n)
    rw [sumN_add f g n]; omega
theorem sumN_zero : ∀ n, sumN (fun _ => 0) n = 0
  | 0 => rfl
  | n + 1 => by show sumN (fun _ => 0) n + 0 = 0; rw [sumN_zero n]; rfl
theorem sumN_one (q : Nat) (s : Int) : ∀ n, sumN (fun p => if 0 ≤ (p : Int) ∧ (q : Int) ≠ (p : Int) then 0 else s) n = if q < n then s else 0
  | 0 => by simp [sumN]
  | n + 1 => by
    show sumN _ n + (if _ then 0 else s) = _
    rw [sumN_one q s n]
    by_cases e : q = n
    · rw [if_neg (by omega), if_neg (by omega), if_pos (by omega)]; omega
    · rw [if_pos (show 0 ≤ (n : Int) ∧ (q : Int) ≠ (n : Int) from ⟨by omega, by omega⟩)]
      by_cases e2 : q < n
      · rw [if_pos e2, if_pos (show q < n + 1 by omega)]; omega
      · rw [if_neg e2, if_neg (show ¬ q < n + 1 by omega)]; omega
theorem sumN_mov (a : Ac) (n : Nat) : ∀ (D : List Es), (∀ x ∈ D, x.per < n) → sumN (fun p => movD a (p : Int) D) n = movD a (-1) D := by
  intro D
  induction D with
  | nil => intro _; exact sumN_zero n
  | cons x r ih =>
    intro h
    have h1 : (fun p : Nat => movD a (p : Int) (x :: r)) = fun p : Nat => (if 0 ≤ (p : Int) ∧ (x.per : Int) ≠ (p : Int) then 0 else legSum a x.ls) + movD a (p : Int) r := rfl
    rw [h1, sumN_add, sumN_one, if_pos (h x (by simp)), ih (fun y hy => h y (List.mem_cons_of_mem _ hy))]
    show _ = (if 0 ≤ (-1 : Int) ∧ _ then 0 else legSum a x.ls) + movD a (-1) r
    rw [if_neg (by omega)]
theorem Lk.bal {op : Nat} (hop : op < 32) {C : Ac → Option (List Int)} {L : List Ps} {D : List Es} (h : Lk op C L D) (a : Ac) (hr : ((C a).getD noughts).length = 32) : wrap64 (((C a).getD noughts).sum) = wrap64 (movD a (-1) D) := by
  have h1 := sumN_take ((C a).getD noughts) 32 (by omega)
  rw [List.take_of_length_le (by omega)] at h1
  have h2 := sumN_mod (f := fun p => ((C a).getD noughts).getD p 0) (g := fun p => movD a (p : Int) D) 32 (fun p hp => by
    rw [h.v a p hp]; unfold wrap64; omega)
  rw [sumN_mov a 32 D (fun x hx => by have := h.le x hx; omega), ← h1] at h2
  generalize ((C a).getD noughts).sum = u at *
  generalize movD a (-1) D = v at *
  unfold wrap64
  omega
theorem mov_none (a : Ac) (per : Int) (op : Nat) : ∀ (D : List Es), (∀ x ∈ D, x.per ≤ op) → (op : Int) < per → movD a per D = 0 := by
  intro D
  induction D with
  | nil => intro _ _; rfl
  | cons x r ih =>
    intro h hp
    have := h x (by simp)
    show (if _ then 0 else legSum a x.ls) + movD a per r = 0
    rw [if_pos (by omega), ih (fun y hy => h y (List.mem_cons_of_mem _ hy)) hp]
    rfl
theorem Lk.mov {op : Nat} (hop : op < 32) {C : Ac → Option (List Int)} {L : List Ps} {D : List Es} (h : Lk op C L D) (a : Ac) (per : Int) (hp : 0 ≤ per) : movV C op a per = wrap64 (movD a per D) := by
  unfold movV
  by_cases e : (op : Int) < per
  · rw [if_pos (.inr e), mov_none a per op D h.le e, wrap_zero]
  · obtain ⟨p, rfl⟩ : ∃ p : Nat, per = p := ⟨per.toNat, by omega⟩
    rw [if_neg (by omega)]
    exact h.v a p (by omega)
theorem Lk.err {op : Nat} (hop : op < 32) {C : Ac → Option (List Int)} {L : List Ps} {D : List Es} (h : Lk op C L D) (hr : ∀ a, ((C a).getD noughts).length = 32) (kd : Int) (ls : List Lg) : pErr C kd ls = dErr D kd ls := by
  have : ∀ l, overL C l ↔ overD D l := fun l => by unfold overL overD; rw [h.bal hop (lgA l) (hr _)]
  have h2 : (∃ j, j < ls.length ∧ overL C (ls.getD j default)) ↔ ∃ j, j < ls.length ∧ overD D (ls.getD j default) := ⟨fun ⟨j, h1, h2⟩ => ⟨j, h1, (this _).1 h2⟩, fun ⟨j, h1, h2⟩ => ⟨j, h1, (this _).2 h2⟩⟩
  unfold pErr dErr
  by_cases h3 : ∃ j, j < ls.length ∧ overL C (ls.getD j default)
  · rw [if_pos h3, if_pos (h2.1 h3)]
  · rw [if_neg h3, if_neg (fun x => h3 (h2.2 x))]

theorem dls_pos (ls : List Lg) : 0 ≤ (dls ls).sum ∧ 0 ≤ (cls ls).sum := by
  induction ls with
  | nil => exact ⟨Int.le_refl _, Int.le_refl _⟩
  | cons l r ih =>
    have h1 : (dls (l :: r)).sum = max l.a 0 + (dls r).sum := by simp [dls]
    have h2 : (cls (l :: r)).sum = max (-l.a) 0 + (cls r).sum := by simp [cls]
    omega
theorem dlst_pos (per : Int) (T : List (Nat × List Lg)) : 0 ≤ (dlst per T).sum ∧ 0 ≤ (clst per T).sum := by
  induction T with
  | nil => exact ⟨Int.le_refl _, Int.le_refl _⟩
  | cons x r ih =>
    have h1 : (dlst per (x :: r)).sum = (if 0 ≤ per ∧ (x.1 : Int) ≠ per then [] else dls x.2).sum + (dlst per r).sum := by
      show ((if _ then [] else dls x.2) ++ dlst per r).sum = _
      rw [List.sum_append]
    have h2 : (clst per (x :: r)).sum = (if 0 ≤ per ∧ (x.1 : Int) ≠ per then [] else cls x.2).sum + (clst per r).sum := by
      show ((if _ then [] else cls x.2) ++ clst per r).sum = _
      rw [List.sum_append]
    have h3 := dls_pos x.2
    rw [h1, h2]
    split
    · simp only [List.sum_nil]; omega
    · omega
theorem trL_is : ∀ (ls : List Lg) (d c : Int), 0 ≤ d → 0 ≤ c → Two (d, c) → trL ls (d, c) = if isInt (d + (dls ls).sum) = true ∧ isInt (c + (cls ls).sum) = true then some (d + (dls ls).sum, c + (cls ls).sum) else none := by
  intro ls
  induction ls with
  | nil =>
    intro d c _ _ h2
    show some (d, c) = _
    have e1 : d + (dls []).sum = d := by simp [dls]
    have e2 : c + (cls []).sum = c := by simp [cls]
    rw [e1, e2, if_pos (show isInt d = true ∧ isInt c = true from h2)]
  | cons l r ih =>
    intro d c hd hc h2
    have h1 : (dls (l :: r)).sum = max l.a 0 + (dls r).sum := by simp [dls]
    have h3 : (cls (l :: r)).sum = max (-l.a) 0 + (cls r).sum := by simp [cls]
    have hp := dls_pos r
    rw [h1, h3]
    show (trS (d, c) l).bind (trL r) = _
    unfold trS
    by_cases e : 0 < l.a
    · have e1 : max l.a 0 = l.a := by omega
      have e2 : max (-l.a) 0 = 0 := by omega
      rw [if_pos e, e1, e2, Int.zero_add, ← Int.add_assoc]
      by_cases f : isInt (d + l.a) = true
      · show (if isInt (d + l.a) = true then some (d + l.a, c) else none).bind _ = _
        rw [if_pos f]
        exact ih (d + l.a) c (by omega) hc ⟨f, h2.2⟩
      · show (if isInt (d + l.a) = true then some (d + l.a, c) else none).bind _ = _
        rw [if_neg f, if_neg (fun x => f (by have := (isInt_iff _).1 x.1; rw [isInt_iff]; omega))]
        rfl
    · have e1 : max l.a 0 = 0 := by omega
      have e2 : max (-l.a) 0 = -l.a := by omega
      rw [if_neg e, e1, e2, Int.zero_add, ← Int.add_assoc]
      have e3 : c - l.a = c + -l.a := by omega
      by_cases f : isInt (c + -l.a) = true
      · show (if isInt (c - l.a) = true then some (d, c - l.a) else none).bind _ = _
        rw [e3, if_pos f]
        exact ih d (c + -l.a) hd (by omega) ⟨h2.1, f⟩
      · show (if isInt (c - l.a) = true then some (d, c - l.a) else none).bind _ = _
        rw [e3, if_neg f, if_neg (fun x => f (by have := (isInt_iff _).1 x.2; rw [isInt_iff]; omega))]
        rfl
theorem trP_is (per : Int) (hper : -1 ≤ per) : ∀ (L : List Ps) (d c : Int), 0 ≤ d → 0 ≤ c → Two (d, c) → trP per L (d, c) = if isInt (d + (dlst per (prP L)).sum) = true ∧ isInt (c + (clst per (prP L)).sum) = true then some (d + (dlst per (prP L)).sum, c + (clst per (prP L)).sum) else none := by
  intro L
  induction L with
  | nil =>
    intro d c _ _ h2
    show some (d, c) = _
    have e1 : d + (dlst per (prP [])).sum = d := by simp [dlst, prP]
    have e2 : c + (clst per (prP [])).sum = c := by simp [clst, prP]
    rw [e1, e2, if_pos (show isInt d = true ∧ isInt c = true from h2)]
  | cons x r ih =>
    intro d c hd hc h2
    have h1 : (dlst per (prP (x :: r))).sum = (if 0 ≤ per ∧ (x.per : Int) ≠ per then [] else dls x.ls).sum + (dlst per (prP r)).sum := by
      show ((if _ then [] else dls x.ls) ++ dlst per (prP r)).sum = _
      rw [List.sum_append]
    have h3 : (clst per (prP (x :: r))).sum = (if 0 ≤ per ∧ (x.per : Int) ≠ per then [] else cls x.ls).sum + (clst per (prP r)).sum := by
      show ((if _ then [] else cls x.ls) ++ clst per (prP r)).sum = _
      rw [List.sum_append]
    have hp := dlst_pos per (prP r)
    have hq := dls_pos x.ls
    rw [h1, h3]
    show (if per ≠ -1 ∧ (x.per : Int) ≠ per then trP per r (d, c) else (trL x.ls (d, c)).bind (trP per r)) = _
    by_cases e : 0 ≤ per ∧ (x.per : Int) ≠ per
    · rw [if_pos (⟨by omega, e.2⟩), if_pos e, if_pos e, ih d c hd hc h2]
      simp only [List.sum_nil, Int.zero_add]
    · rw [if_neg (fun f => e ⟨by omega, f.2⟩), if_neg e, if_neg e, trL_is x.ls d c hd hc h2, ← Int.add_assoc, ← Int.add_assoc]
      by_cases f : isInt (d + (dls x.ls).sum) = true ∧ isInt (c + (cls x.ls).sum) = true
      · rw [if_pos f]
        exact ih _ _ (by omega) (by omega) f
      · rw [if_neg f, if_neg (fun g => f ⟨by have := (isInt_iff _).1 g.1; rw [isInt_iff]; omega, by have := (isInt_iff _).1 g.2; rw [isInt_iff]; omega⟩)]
        rfl
theorem Lk.tri {op : Nat} {C : Ac → Option (List Int)} {L : List Ps} {D : List Es} (h : Lk op C L D) (per : Int) : triE op L per = rtriE op D per ∧ triO op L per = rtriO op D per := by
  unfold triE rtriE triO rtriO
  by_cases e : per < -1 ∨ (op : Int) < per
  · rw [if_pos e, if_pos e, if_pos e, if_pos e]; exact ⟨rfl, rfl⟩
  · rw [if_neg e, if_neg e, if_neg e, if_neg e, trP_is per (by omega) L 0 0 (by omega) (by omega) ⟨by decide, by decide⟩, h.e]
    simp only [Int.zero_add]
    by_cases f : isInt (dlst per (prE D)).sum = true ∧ isInt (clst per (prE D)).sum = true
    · rw [if_pos f, if_pos f, if_pos f]; exact ⟨rfl, rfl⟩
    · rw [if_neg f, if_neg f, if_neg f]; exact ⟨rfl, rfl⟩

theorem ltC_irr {x : Ac} : ¬ ltC x x := by unfold ltC; exact ltA_irrefl _
theorem ltC_tr {x y z : Ac} (h : ltC x y) (k : ltC y z) : ltC x z := ltA_trans h k
theorem ltC_tot {x y : Ac} (h : ¬ ltC y x) (k : x ≠ y) : ltC x y := by
  obtain ⟨a, b, c⟩ := x
  obtain ⟨d, e, f⟩ := y
  unfold ltC ltA toL at *
  dsimp only at *
  have k2 : ¬ (a = d ∧ b = e ∧ c = f) := fun ⟨h1, h2, h3⟩ => k (by rw [h1, h2, h3])
  omega
theorem sorted_eq : ∀ (A B : List Ac), A.Pairwise ltC → B.Pairwise ltC → (∀ x, x ∈ A ↔ x ∈ B) → A = B := by
  intro A
  induction A with
  | nil =>
    intro B _ _ h
    cases B with
    | nil => rfl
    | cons y r => exact absurd ((h y).2 (by simp)) (by simp)
  | cons x r ih =>
    intro B hA hB h
    cases B with
    | nil => exact absurd ((h x).1 (by simp)) (by simp)
    | cons y s =>
      rw [List.pairwise_cons] at hA hB
      have hxy : x = y := by
        rcases List.mem_cons.1 ((h x).1 (by simp)) with e | e
        · exact e
        · rcases List.mem_cons.1 ((h y).2 (by simp)) with f | f
          · exact f.symm
          · exact absurd (ltC_tr (hA.1 y f) (hB.1 x e)) ltC_irr
      subst hxy
      rw [ih s hA.2 hB.2 (fun z => ?_)]
      constructor
      · intro hz
        rcases List.mem_cons.1 ((h z).1 (List.mem_cons_of_mem _ hz)) with e | e
        · rw [e] at hz; exact absurd (hA.1 _ hz) ltC_irr
        · exact e
      · intro hz
        rcases List.mem_cons.1 ((h z).2 (List.mem_cons_of_mem _ hz)) with e | e
        · rw [e] at hz; exact absurd (hB.1 _ hz) ltC_irr
        · exact e
theorem grpL_mem {k n m : Nat} {a : Ac} : a ∈ grpL k n m ↔ a.k = k ∧ a.n = n ∧ 0 ≤ a.g ∧ a.g < m := by
  unfold grpL
  rw [List.mem_map]
  constructor
  · rintro ⟨g, hg, rfl⟩
    have := List.mem_range.1 hg
    exact ⟨rfl, rfl, by show (0 : Int) ≤ (g : Int); omega, by show (g : Int) < m; omega⟩
  · rintro ⟨h1, h2, h3, h4⟩
    obtain ⟨x, y, z⟩ := a
    dsimp only at *
    exact ⟨z.toNat, List.mem_range.2 (by omega), by rw [h1, h2]; congr 1; omega⟩
theorem nodL_mem {k m : Nat} {a : Ac} : a ∈ nodL k m ↔ a.k = k ∧ (0 ≤ a.n ∧ a.n < m) ∧ 0 ≤ a.g ∧ a.g < 9 := by
  unfold nodL
  rw [List.mem_flatMap]
  constructor
  · rintro ⟨n, hn, h⟩
    have := List.mem_range.1 hn
    obtain ⟨h1, h2, h3, h4⟩ := grpL_mem.1 h
    exact ⟨h1, by omega, h3, by omega⟩
  · rintro ⟨h1, h2, h3, h4⟩
    exact ⟨a.n.toNat, List.mem_range.2 (by omega), grpL_mem.2 ⟨h1, by omega, h3, by omega⟩⟩
theorem kndL_mem {m : Nat} {a : Ac} : a ∈ kndL m ↔ (1 ≤ a.k ∧ a.k ≤ m) ∧ (0 ≤ a.n ∧ a.n < 33) ∧ 0 ≤ a.g ∧ a.g < 9 := by
  unfold kndL
  rw [List.mem_flatMap]
  constructor
  · rintro ⟨n, hn, h⟩
    have := List.mem_range.1 hn
    obtain ⟨h1, h2, h3, h4⟩ := nodL_mem.1 h
    exact ⟨by omega, by omega, h3, h4⟩
  · rintro ⟨h1, h2, h3, h4⟩
    exact ⟨a.k.toNat - 1, List.mem_range.2 (by omega), nodL_mem.2 ⟨by omega, by omega, h3, h4⟩⟩
theorem ltC_of {x y : Ac} (h : x.k < y.k ∨ x.k = y.k ∧ (x.n < y.n ∨ x.n = y.n ∧ x.g < y.g)) : ltC x y := h
theorem grpL_lt (k n : Nat) : ∀ m, (grpL k n m).Pairwise ltC
  | 0 => List.Pairwise.nil
  | m + 1 => by
    rw [grpL_succ, List.pairwise_append]
    refine ⟨grpL_lt k n m, by simp, fun a ha b hb => ?_⟩
    have h1 := grpL_mem.1 ha
    rw [List.mem_singleton.1 hb]
    exact ltC_of (by dsimp only; omega)
theorem nodL_lt (k : Nat) : ∀ m, (nodL k m).Pairwise ltC
  | 0 => List.Pairwise.nil
  | m + 1 => by
    rw [nodL_succ, List.pairwise_append]
    refine ⟨nodL_lt k m, grpL_lt _ _ _, fun a ha b hb => ?_⟩
    have h1 := nodL_mem.1 ha
    have h2 := grpL_mem.1 hb
    exact ltC_of (by omega)
theorem kndL_lt : ∀ m, (kndL m).Pairwise ltC
  | 0 => List.Pairwise.nil
  | m + 1 => by
    rw [kndL_succ, List.pairwise_append]
    refine ⟨kndL_lt m, nodL_lt _ _, fun a ha b hb => ?_⟩
    have h1 := kndL_mem.1 ha
    have h2 := nodL_mem.1 hb
    exact ltC_of (by omega)
theorem accB_in {l : Lg} (h : accB l = true) : lgA l ∈ kndL 5 := by
  rw [kndL_mem]
  unfold accB nodeB at h
  unfold lgA
  dsimp only
  by_cases e1 : l.k = 1
  · rw [if_pos e1] at h; simp at h; omega
  · rw [if_neg e1] at h
    by_cases e2 : l.k = 2 ∨ l.k = 3 ∨ l.k = 5
    · rw [if_pos e2] at h; simp at h; omega
    · rw [if_neg e2] at h
      by_cases e4 : l.k = 4
      · rw [if_pos e4] at h; simp at h; omega
      · rw [if_neg e4] at h; cases h
theorem thD_in {D : List Es} (hD : ∀ x ∈ D, chk x.kd x.ls = 0) {a : Ac} (h : thD a D = true) : a ∈ kndL 5 := by
  unfold thD thL at h
  rw [List.any_eq_true] at h
  obtain ⟨x, hx, h⟩ := h
  rw [List.any_eq_true] at h
  obtain ⟨l, hl, h⟩ := h
  have h : lgA l = a := of_decide_eq_true h
  rw [← h]
  exact accB_in (((chk_ok _ _).1 (hD x hx)).2.2.1 l hl).1
theorem Lk.accs {op : Nat} {C : Ac → Option (List Int)} {L : List Ps} {D : List Es} (h : Lk op C L D) (hD : ∀ x ∈ D, chk x.kd x.ls = 0) {ss : List Ac} (hk : KeysOf C ss) (hs : SortedC ss) : ss.map toL = accD D (kndL 5) := by
  unfold accD
  congr 1
  refine sorted_eq _ _ ?_ ((kndL_lt 5).filter _) (fun x => ?_)
  · have h1 : ss.Pairwise (fun x y => x ≠ y) := hk.1
    have h2 : ss.Pairwise (fun x y => ¬ ltC y x) := hs
    exact (h2.and h1).imp (fun h => ltC_tot h.1 h.2)
  · rw [hk.2.1, h.s, List.mem_filter]
    exact ⟨fun e => ⟨thD_in hD e, e⟩, fun e => e.2⟩
end Go.Proofs.Ytdjiljkdnpmilaa.jnw

