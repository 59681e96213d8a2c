/- TimerActs' walk. -/
import Derived.Test.YtiohdfplgpmcdaaTmQ
namespace Go.Proofs.Ytiohdfplgpmcdaa.tmw
open Go.RowKit mem rowz
set_option linter.unusedVariables false

set_option maxRecDepth 100000 in
set_option maxHeartbeats 8000000 in
theorem tacts_any (a : Option Addr) (len cap : Nat) (ask : Int) (w : World) (hr : RowA w a len) :
    Calls Try.prog 3 #[.slice a len cap, .int .i64 ask] w fun e w' => e = .returned (.bool true) ∧ Only (fun _ => False) w w' := by
  have HA := Lib.hid hr.2
  have hlm := hr.1
  unfold maxLen at hlm
  clear hr
  go_enter Try.func3, Try.ntmps3
  go_wp2_with fail
  refine (none_any _).mono ?_
  rintro _ w1 ⟨rfl, k1⟩
  have K1 := Lib.hid (k1)
  clear k1
  go_wp2_with fail
  refine (at_nil 1 _).mono ?_
  rintro _ w2 ⟨rfl, k2⟩
  have K2 := Lib.hid (K1.out.trans k2)
  clear k2 K1
  go_wp2_with fail
  refine (none_any _).mono ?_
  rintro _ w3 ⟨rfl, k3⟩
  have K3 := Lib.hid (K2.out.trans k3)
  clear k3 K2
  go_wp2_with fail
  refine (next_nil _).mono ?_
  rintro _ w4 ⟨rfl, k4⟩
  have K4 := Lib.hid (K3.out.trans k4)
  clear k4 K3
  go_wp2_with fail
  refine (timers_any _).mono ?_
  rintro _ w5 ⟨rfl, k5⟩
  have K5 := Lib.hid (K4.out.trans k5)
  clear k5 K4
  go_wp2_with fail
  refine (none_any _).mono ?_
  rintro _ w6 ⟨rfl, k6⟩
  have K6 := Lib.hid (K5.out.trans k6)
  clear k6 K5
  go_wp2_with fail
  refine (set_nil 1 1 _).mono ?_
  rintro _ w7 ⟨rfl, k7⟩
  have K7 := Lib.hid (K6.out.trans k7)
  clear k7 K6
  go_wp2_with fail
  refine (none_any _).mono ?_
  rintro _ w8 ⟨rfl, k8⟩
  have K8 := Lib.hid (K7.out.trans k8)
  clear k8 K7
  go_wp2_with fail
  refine (drop_nil 1 _).mono ?_
  rintro _ w9 ⟨rfl, k9⟩
  have K9 := Lib.hid (K8.out.trans k9)
  clear k9 K8
  go_wp2_with fail
  refine (none_any _).mono ?_
  rintro _ w10 ⟨rfl, k10⟩
  have K10 := Lib.hid (K9.out.trans k10)
  clear k10 K9
  go_wp2_with fail
  refine (due_nil 5 _).mono ?_
  rintro _ w11 ⟨rfl, k11⟩
  have K11 := Lib.hid (K10.out.trans k11)
  clear k11 K10
  go_wp2_with fail
  refine (none_any _).mono ?_
  rintro _ w12 ⟨rfl, k12⟩
  have K12 := Lib.hid (K11.out.trans k12)
  clear k12 K11
  go_wp2_with fail
  refine (len_nil _).mono ?_
  rintro _ w13 ⟨rfl, k13⟩
  have K13 := Lib.hid (K12.out.trans k13)
  clear k13 K12
  go_wp2_with fail
  refine (tnew_any _).mono ?_
  rintro _ w14 ⟨rfl, ht, ho⟩
  obtain ⟨p, hp⟩ : ∃ p, p = w13.heap.size := ⟨_, rfl⟩
  rw [← hp] at ht
  have hs13 := K13.out.size
  have hp14 : p < w14.heap.size := World.block_lt_of_cell? w14 _ ht.1
  have HT14 := Lib.hid ht
  have K14 := Lib.hid (K13.out.trans ho)
  rw [← hp]
  clear ht ho K13
  obtain ⟨w15, hw15⟩ : ∃ x, x = w14.alloc (.cells #[.slice none 0 0] 39) := ⟨_, rfl⟩
  obtain ⟨q, hq⟩ : ∃ q, q = w14.heap.size := ⟨_, rfl⟩
  have hal : Only (fun _ => False) w14 w15 := by rw [hw15]; exact (Only.refl _ _).alloc _
  have hcq : w15.cell? ⟨q, 0, none⟩ = some (.slice none 0 0) := by rw [hw15]; exact alloc_newM _ _ _ _ _ _ hq rfl
  have hfq : w15.frozen? ⟨q, 0, none⟩ = false := by rw [hw15]; exact alloc_frozM _ _ _ _ _ hq
  have hq15 : q < w15.heap.size := World.block_lt_of_cell? w15 _ hcq
  have HR : Hid (R3 w.heap.size (fun x => x = p) (fun x => x = q) w15 p [] q []) := Lib.hid ⟨⟨_, HT14.out.only hal (fun f => f) (fun _ _ f => f), Good.nil, rfl, fun _ e => by cases e⟩, ⟨none, 0, ⟨hcq, hfq, ⟨rfl, .inl rfl⟩, fun _ e => (by cases e), Nat.le_refl _, by unfold maxLen; omega, by simp, fun _ => rfl⟩, rfl, fun _ _ e => by cases e⟩, fun x h1 h2 => by dsimp only at h1 h2; omega, fun x h1 => by dsimp only at h1; have := hal.size; omega, fun x h1 => by dsimp only at h1; omega⟩
  have K15 := Lib.hid (K14.out.trans hal)
  clear HT14 hcq hfq hal K14
  go_upto_block 0 with fail
  rw [← hw15, ← hq]
  try rw [← hp]
  clear hw15 hq hp hp14 hq15 hs13
  go_wp2_with fail
  go_loopw [11] (fun iv wr => ∃ (i : Nat) (l : List Tm) (S T : Nat → Prop), i ≤ len ∧ i ≤ 60 ∧ iv = .int .i64 i ∧ Hid (l.length ≤ i) ∧ Hid (R3 w.heap.size S T wr p l q l) ∧ Hid (Only (fun _ => False) w wr)) (fun iv _ => 60 - (intOf iv).toNat)
  case atStart => exact ⟨0, [], _, _, by omega, by omega, rfl, Lib.hid (Nat.le_refl _), HR, K15⟩
  case round =>
    clear HR K15
    obtain ⟨i, l, S, T, hil, hi4, rfl, HL, h, HO⟩ := hrel
    by_cases h8 : i < len ∧ i < 60
    · obtain ⟨h8, h9⟩ := h8
      have k1 : (i : Int) < len := by omega
      have k2 : (i : Int) < 60 := by omega
      have k3 : (0 : Int) ≤ i := by omega
      obtain ⟨b, off, rfl, hc⟩ := HA.out.resolve_left (by omega)
      obtain ⟨x, y, z, hin, c0, c1, c2⟩ := hc i h8
      replace c0 := HO.out.cell' c0 (fun f => f)
      replace c1 := HO.out.cell' c1 (fun f => f)
      replace c2 := HO.out.cell' c2 (fun f => f)
      obtain ⟨w2, hw2⟩ : ∃ v, v = wr.alloc (.cells #[.int .i64 x, .int .i64 y, .int .i64 z] 41) := ⟨_, rfl⟩
      obtain ⟨g12, hg12⟩ : ∃ v, v = wr.heap.size := ⟨_, rfl⟩
      have hal : Only (fun _ => False) wr w2 := by rw [hw2]; exact (Only.refl _ _).alloc _
      have d0 : w2.cell? ⟨g12, 0, none⟩ = some (.int .i64 x) := by rw [hw2]; exact alloc_newM _ _ _ _ _ _ hg12 rfl
      have d1 : w2.cell? ⟨g12, 1, none⟩ = some (.int .i64 y) := by rw [hw2]; exact alloc_newM _ _ _ _ _ _ hg12 rfl
      have d2 : w2.cell? ⟨g12, 2, none⟩ = some (.int .i64 z) := by rw [hw2]; exact alloc_newM _ _ _ _ _ _ hg12 rfl
      have H := Lib.hid (h.out.only hal)
      have HGD := Lib.hid h.out.1.good
      have HSL : Hid (∀ w', Only (fun x => S x ∨ T x) w2 w' → Only (fun x => S x ∨ T x) w2 w' ∧ w'.cell? ⟨g12, 0, none⟩ = some (.int .i64 x) ∧ w'.cell? ⟨g12, 1, none⟩ = some (.int .i64 y) ∧ w'.cell? ⟨g12, 2, none⟩ = some (.int .i64 z)) := Lib.hid (fun w' ho => by
        have hn : ¬ (S g12 ∨ T g12) := fun e => by
          rcases e with e | e
          · have := (h.out.2.2.2.1 _ e).2; omega
          · have := (h.out.2.2.2.2 _ e).2; omega
        exact ⟨ho, ho.cell' d0 hn, ho.cell' d1 hn, ho.cell' d2 hn⟩)
      have HO2 := Lib.hid (HO.out.trans hal)
      have hlen : l.length ≤ 1000 := by have := HL.out; omega
      have hlen9 : l.length ≤ 900 := by have := HL.out; omega
      clear hc hin HO hal d1 d2
      go_upto_region 10 with fail
      rw [← hw2, ← hg12]
      clear hw2 hg12 c0 c1 c2 h
      have hkb := tmod_in x 3 (by decide) (by decide)
      generalize hkx : wrap64 ((IntKind.u64.wrap x).tmod 3) = kx at hkb
      have HKX := Lib.hid hkx
      go_upto_block 2 with fail
      simp only [hkx]
      clear hkx
      go_cut [] from 82 to 119 (fun wx => ∃ (l' : List Tm) (S' T' : Nat → Prop), Hid (l'.length ≤ i + 1) ∧ Hid (R3 w.heap.size S' T' wx p l' q l') ∧ Hid (Only (fun _ => False) w wx) ∧ Hid (wx.cell? ⟨g12, 0, none⟩ = some (.int .i64 x) ∧ wx.cell? ⟨g12, 1, none⟩ = some (.int .i64 y) ∧ wx.cell? ⟨g12, 2, none⟩ = some (.int .i64 z)))
      case first =>
        clear d0
        have hk3 : kx = 0 ∨ kx = 1 ∨ kx = 2 := by omega
        clear hkb HKX
        rcases hk3 with hk | hk | hk
        · have e0 : (kx == 0) = true := by rw [hk]; decide
          clear hk
          go_upto_region 12 with fail
          refine wp_region_noPanic ?_
          refine wp_region_held_drew (S := (fun w' => Only (fun x => S x ∨ T x) w2 w' ∧ w'.cell? ⟨g12, 0, none⟩ = some (.int .i64 x) ∧ w'.cell? ⟨g12, 1, none⟩ = some (.int .i64 y) ∧ w'.cell? ⟨g12, 2, none⟩ = some (.int .i64 z))) (by kernel_rfl) (HSL.out _ ((Only.refl _ _).drew)) (fun hHeld => ?_)
          have hot : Hid (Only (fun _ => False) w2 w2.drew) := Lib.hid ((Only.refl _ w2).drew)
          refine wpAnyH_take (i := 0) (v := ?_) rfl (by kernel_rfl) (by kernel_rfl) (by kernel_rfl) (fun _ _ _ h => h) (Or.inl ⟨by rfl, ?_⟩) (by assumption) ?_
          rotate_left 1
          · intro w' hSw
            try dsimp only at hSw
            go_simp
            try with_reducible rfl
          try simp only [List.getElem_toArray, List.getElem_cons_zero, Act.put, List.setIfInBounds_toArray, List.set_cons_zero, List.set_cons_succ]
          refine wpAnyH_take (i := 1) (v := ?_) rfl (by kernel_rfl) (by kernel_rfl) (by kernel_rfl) (fun _ _ _ h => h) (Or.inl ⟨by rfl, ?_⟩) (by assumption) ?_
          rotate_left 1
          · intro w' hSw
            try dsimp only at hSw
            go_simp
            try with_reducible rfl
          try simp only [List.getElem_toArray, List.getElem_cons_zero, List.getElem_cons_succ, Act.put, List.setIfInBounds_toArray, List.set_cons_zero, List.set_cons_succ]
          refine wpAnyH_take (i := 2) (v := ?_) rfl (by kernel_rfl) (by kernel_rfl) (by kernel_rfl) (fun _ _ _ h => h) (Or.inl ⟨by rfl, ?_⟩) (by assumption) ?_
          rotate_left 1
          · intro w' hSw
            try dsimp only at hSw
            go_simp
            try with_reducible rfl
          try simp only [List.getElem_toArray, List.getElem_cons_zero, List.getElem_cons_succ, Act.put, List.setIfInBounds_toArray, List.set_cons_zero, List.set_cons_succ]
          refine wpAnyH_take (i := 3) (v := ?_) rfl (by kernel_rfl) (by kernel_rfl) (by kernel_rfl) (fun _ _ _ h => h) (Or.inl ⟨by rfl, ?_⟩) (by assumption) ?_
          rotate_left 1
          · intro w' hSw
            try dsimp only at hSw
            go_simp
            try with_reducible rfl
          try simp only [List.getElem_toArray, List.getElem_cons_zero, List.getElem_cons_succ, Act.put, List.setIfInBounds_toArray, List.set_cons_zero, List.set_cons_succ]
          refine wpAnyH_take (i := 4) (v := ?_) rfl (by kernel_rfl) (by kernel_rfl) (by kernel_rfl) (fun _ _ _ h => h) (Or.inl ⟨by rfl, ?_⟩) (by assumption) ?_
          rotate_left 1
          · intro w' hSw
            try dsimp only at hSw
            go_simp
            try with_reducible rfl
          try simp only [List.getElem_toArray, List.getElem_cons_zero, List.getElem_cons_succ, Act.put, List.setIfInBounds_toArray, List.set_cons_zero, List.set_cons_succ]
          refine wpAnyH_take (i := 6) (v := ?_) rfl (by kernel_rfl) (by kernel_rfl) (by kernel_rfl) (fun _ _ _ h => h) (Or.inl ⟨by rfl, ?_⟩) (by assumption) ?_
          rotate_left 1
          · intro w' hSw
            try dsimp only at hSw
            go_simp
            try with_reducible rfl
          try simp only [List.getElem_toArray, List.getElem_cons_zero, List.getElem_cons_succ, Act.put, List.setIfInBounds_toArray, List.set_cons_zero, List.set_cons_succ]
          refine wpAnyH_take (i := 7) (v := ?_) rfl (by kernel_rfl) (by kernel_rfl) (by kernel_rfl) (fun _ _ _ h => h) (Or.inl ⟨by rfl, ?_⟩) (by assumption) ?_
          rotate_left 1
          · intro w' hSw
            try dsimp only at hSw
            go_simp
            try with_reducible rfl
          try simp only [List.getElem_toArray, List.getElem_cons_zero, List.getElem_cons_succ, Act.put, List.setIfInBounds_toArray, List.set_cons_zero, List.set_cons_succ]
          refine wpAnyH_take (i := 8) (v := ?_) rfl (by kernel_rfl) (by kernel_rfl) (by kernel_rfl) (fun _ _ _ h => h) (Or.inl ⟨by rfl, ?_⟩) (by assumption) ?_
          rotate_left 1
          · intro w' hSw
            try dsimp only at hSw
            go_simp
            try with_reducible rfl
          try simp only [List.getElem_toArray, List.getElem_cons_zero, List.getElem_cons_succ, Act.put, List.setIfInBounds_toArray, List.set_cons_zero, List.set_cons_succ]
          refine wpAnyH_take (i := 9) (v := ?_) rfl (by kernel_rfl) (by kernel_rfl) (by kernel_rfl) (fun _ _ _ h => h) (Or.inl ⟨by rfl, ?_⟩) (by assumption) ?_
          rotate_left 1
          · intro w' hSw
            try dsimp only at hSw
            go_simp
            try with_reducible rfl
          try simp only [List.getElem_toArray, List.getElem_cons_zero, List.getElem_cons_succ, Act.put, List.setIfInBounds_toArray, List.set_cons_zero, List.set_cons_succ]
          refine wpAnyH_take (i := 10) (v := ?_) rfl (by kernel_rfl) (by kernel_rfl) (by kernel_rfl) (fun _ _ _ h => h) (Or.inl ⟨by rfl, ?_⟩) (by assumption) ?_
          rotate_left 1
          · intro w' hSw
            try dsimp only at hSw
            go_simp
            try with_reducible rfl
          try simp only [List.getElem_toArray, List.getElem_cons_zero, List.getElem_cons_succ, Act.put, List.setIfInBounds_toArray, List.set_cons_zero, List.set_cons_succ]
          refine wpAnyH_ready (rs := [5]) (by kernel_rfl) (by simp) ?_
          refine AllReadyH.cons rfl (fun K hK => ?_) AllReadyH.nil
          try simp only [List.getElem_toArray, List.getElem_cons_zero, List.getElem_cons_succ]
          go_simp
          go_at_call 12
          with_reducible refine (r_tset z y (H.out.only hot.out) hlen).mono ?_
          rintro _ wn1 ⟨rfl, ⟨V', ht⟩, ho⟩
          have HSZ : Hid (∀ x, T x → x < w2.heap.size) := Lib.hid (fun x hx => (H.out.2.2.2.2 x hx).2)
          have hot9 := Lib.hid ((hot.out.mono (fun _ _ f => f.elim)).trans (ho.mono fun _ _ h => .inl h) : Only (fun x => S x ∨ T x) w2 wn1)
          have h2 := Lib.hid ht
          clear ho ht
          try dsimp only
          refine hK.out _ _ (HSL.out _ hot9.out) (fun hHeld1 => ?_)
          clear hK K
          try simp only [List.getElem_toArray, List.getElem_cons_zero, List.getElem_cons_succ, Act.put, List.setIfInBounds_toArray, List.set_cons_zero, List.set_cons_succ]
          refine wpAnyH_ready (rs := [11]) (by kernel_rfl) (by simp) ?_
          refine AllReadyH.cons rfl (fun K hK => ?_) AllReadyH.nil
          try simp only [List.getElem_toArray, List.getElem_cons_zero, List.getElem_cons_succ]
          go_simp
          go_at_call 17
          with_reducible refine (r_uset z y h2.out HGD.out hlen9).mono ?_
          rintro _ wn2 ⟨rfl, ⟨V', ht⟩, ho⟩
          have hot8 := Lib.hid (hot9.out.trans (ho.mono fun _ _ h => .inr h) : Only (fun x => S x ∨ T x) w2 wn2)
          have h3 := Lib.hid ht
          clear ho ht
          try dsimp only
          refine hK.out _ _ (HSL.out _ hot8.out) (fun hHeld2 => ?_)
          clear hK K
          try simp only [List.getElem_toArray, List.getElem_cons_zero, List.getElem_cons_succ, Act.put, List.setIfInBounds_toArray, List.set_cons_zero, List.set_cons_succ]
          refine wpAnyH_take (i := 12) (v := ?_) rfl (by kernel_rfl) (by kernel_rfl) (by kernel_rfl) (fun _ _ _ h => h) (Or.inl ⟨by rfl, ?_⟩) (by assumption) ?_
          rotate_left 1
          · intro w' hSw
            try dsimp only at hSw
            go_simp
            try with_reducible rfl
          try simp only [List.getElem_toArray, List.getElem_cons_zero, List.getElem_cons_succ, Act.put, List.setIfInBounds_toArray, List.set_cons_zero, List.set_cons_succ]
          refine wpAnyH_done (by kernel_rfl) ?_ _
          refine NoPanic.normal ?_
          have HLN : Hid ((setL l z y).length ≤ i + 1) := Lib.hid (by have := setL_len l z y; have := HL.out; omega)
          generalize setL l z y = l' at *
          generalize setE l z y = e' at *
          have hee : (e' != e') = false := by simp
          have HOF := Lib.hid (HO2.out.then hot8.out (fun x hx e => by
            rcases e with e | e
            · have := (H.out.2.2.2.1 x e).1; omega
            · have := (H.out.2.2.2.2 x e).1; omega))
          have HCL := Lib.hid (HSL.out _ hot8.out)
          go_wp2_with fail
          go_meet
          exact ⟨_, _, _, HLN, h3, HOF, Lib.hid HCL.out.2⟩
        · have e0 : (kx == 0) = false := by rw [hk]; decide
          have e1 : (kx == 1) = true := by rw [hk]; decide
          clear hk
          go_upto_region 15 with fail
          refine wp_region_noPanic ?_
          refine wp_region_held_drew (S := (fun w' => Only (fun x => S x ∨ T x) w2 w' ∧ w'.cell? ⟨g12, 0, none⟩ = some (.int .i64 x) ∧ w'.cell? ⟨g12, 1, none⟩ = some (.int .i64 y) ∧ w'.cell? ⟨g12, 2, none⟩ = some (.int .i64 z))) (by kernel_rfl) (HSL.out _ ((Only.refl _ _).drew)) (fun hHeld => ?_)
          have hot : Hid (Only (fun _ => False) w2 w2.drew) := Lib.hid ((Only.refl _ w2).drew)
          refine wpAnyH_take (i := 0) (v := ?_) rfl (by kernel_rfl) (by kernel_rfl) (by kernel_rfl) (fun _ _ _ h => h) (Or.inl ⟨by rfl, ?_⟩) (by assumption) ?_
          rotate_left 1
          · intro w' hSw
            try dsimp only at hSw
            go_simp
            try with_reducible rfl
          try simp only [List.getElem_toArray, List.getElem_cons_zero, Act.put, List.setIfInBounds_toArray, List.set_cons_zero, List.set_cons_succ]
          refine wpAnyH_take (i := 1) (v := ?_) rfl (by kernel_rfl) (by kernel_rfl) (by kernel_rfl) (fun _ _ _ h => h) (Or.inl ⟨by rfl, ?_⟩) (by assumption) ?_
          rotate_left 1
          · intro w' hSw
            try dsimp only at hSw
            go_simp
            try with_reducible rfl
          try simp only [List.getElem_toArray, List.getElem_cons_zero, List.getElem_cons_succ, Act.put, List.setIfInBounds_toArray, List.set_cons_zero, List.set_cons_succ]
          refine wpAnyH_take (i := 2) (v := ?_) rfl (by kernel_rfl) (by kernel_rfl) (by kernel_rfl) (fun _ _ _ h => h) (Or.inl ⟨by rfl, ?_⟩) (by assumption) ?_
          rotate_left 1
          · intro w' hSw
            try dsimp only at hSw
            go_simp
            try with_reducible rfl
          try simp only [List.getElem_toArray, List.getElem_cons_zero, List.getElem_cons_succ, Act.put, List.setIfInBounds_toArray, List.set_cons_zero, List.set_cons_succ]
          refine wpAnyH_take (i := 4) (v := ?_) rfl (by kernel_rfl) (by kernel_rfl) (by kernel_rfl) (fun _ _ _ h => h) (Or.inl ⟨by rfl, ?_⟩) (by assumption) ?_
          rotate_left 1
          · intro w' hSw
            try dsimp only at hSw
            go_simp
            try with_reducible rfl
          try simp only [List.getElem_toArray, List.getElem_cons_zero, List.getElem_cons_succ, Act.put, List.setIfInBounds_toArray, List.set_cons_zero, List.set_cons_succ]
          refine wpAnyH_take (i := 5) (v := ?_) rfl (by kernel_rfl) (by kernel_rfl) (by kernel_rfl) (fun _ _ _ h => h) (Or.inl ⟨by rfl, ?_⟩) (by assumption) ?_
          rotate_left 1
          · intro w' hSw
            try dsimp only at hSw
            go_simp
            try with_reducible rfl
          try simp only [List.getElem_toArray, List.getElem_cons_zero, List.getElem_cons_succ, Act.put, List.setIfInBounds_toArray, List.set_cons_zero, List.set_cons_succ]
          refine wpAnyH_take (i := 6) (v := ?_) rfl (by kernel_rfl) (by kernel_rfl) (by kernel_rfl) (fun _ _ _ h => h) (Or.inl ⟨by rfl, ?_⟩) (by assumption) ?_
          rotate_left 1
          · intro w' hSw
            try dsimp only at hSw
            go_simp
            try with_reducible rfl
          try simp only [List.getElem_toArray, List.getElem_cons_zero, List.getElem_cons_succ, Act.put, List.setIfInBounds_toArray, List.set_cons_zero, List.set_cons_succ]
          refine wpAnyH_ready (rs := [3]) (by kernel_rfl) (by simp) ?_
          refine AllReadyH.cons rfl (fun K hK => ?_) AllReadyH.nil
          try simp only [List.getElem_toArray, List.getElem_cons_zero, List.getElem_cons_succ]
          go_simp
          go_at_call 13
          with_reducible refine (r_tdrop y (H.out.only hot.out) ).mono ?_
          rintro _ wn1 ⟨rfl, ⟨V', ht⟩, ho⟩
          have HSZ : Hid (∀ x, T x → x < w2.heap.size) := Lib.hid (fun x hx => (H.out.2.2.2.2 x hx).2)
          have hot9 := Lib.hid ((hot.out.mono (fun _ _ f => f.elim)).trans (ho.mono fun _ _ h => .inl h) : Only (fun x => S x ∨ T x) w2 wn1)
          have h2 := Lib.hid ht
          clear ho ht
          try dsimp only
          refine hK.out _ _ (HSL.out _ hot9.out) (fun hHeld1 => ?_)
          clear hK K
          try simp only [List.getElem_toArray, List.getElem_cons_zero, List.getElem_cons_succ, Act.put, List.setIfInBounds_toArray, List.set_cons_zero, List.set_cons_succ]
          refine wpAnyH_ready (rs := [7]) (by kernel_rfl) (by simp) ?_
          refine AllReadyH.cons rfl (fun K hK => ?_) AllReadyH.nil
          try simp only [List.getElem_toArray, List.getElem_cons_zero, List.getElem_cons_succ]
          go_simp
          go_at_call 18
          with_reducible refine (r_udrop y h2.out ).mono ?_
          rintro _ wn2 ⟨rfl, ⟨V', ht⟩, ho⟩
          have hot8 := Lib.hid (hot9.out.trans (ho.mono fun _ _ h => .inr h) : Only (fun x => S x ∨ T x) w2 wn2)
          have h3 := Lib.hid ht
          clear ho ht
          try dsimp only
          refine hK.out _ _ (HSL.out _ hot8.out) (fun hHeld2 => ?_)
          clear hK K
          try simp only [List.getElem_toArray, List.getElem_cons_zero, List.getElem_cons_succ, Act.put, List.setIfInBounds_toArray, List.set_cons_zero, List.set_cons_succ]
          refine wpAnyH_take (i := 8) (v := ?_) rfl (by kernel_rfl) (by kernel_rfl) (by kernel_rfl) (fun _ _ _ h => h) (Or.inl ⟨by rfl, ?_⟩) (by assumption) ?_
          rotate_left 1
          · intro w' hSw
            try dsimp only at hSw
            go_simp
            try with_reducible rfl
          try simp only [List.getElem_toArray, List.getElem_cons_zero, List.getElem_cons_succ, Act.put, List.setIfInBounds_toArray, List.set_cons_zero, List.set_cons_succ]
          refine wpAnyH_done (by kernel_rfl) ?_ _
          refine NoPanic.normal ?_
          have HLN : Hid ((remM y l).length ≤ i + 1) := Lib.hid (by have := rem_le y l; have := HL.out; omega)
          generalize remM y l = l' at *
          generalize (if mIdx y 0 l < 0 then (7 : Int) else 0) = e' at *
          have hee : (e' != e') = false := by simp
          have HOF := Lib.hid (HO2.out.then hot8.out (fun x hx e => by
            rcases e with e | e
            · have := (H.out.2.2.2.1 x e).1; omega
            · have := (H.out.2.2.2.2 x e).1; omega))
          have HCL := Lib.hid (HSL.out _ hot8.out)
          go_wp2_with fail
          go_meet
          exact ⟨_, _, _, HLN, h3, HOF, Lib.hid HCL.out.2⟩
        · have e0 : (kx == 0) = false := by rw [hk]; decide
          have e1 : (kx == 1) = false := by rw [hk]; decide
          have e2 : (kx == 2) = true := by rw [hk]; decide
          clear hk
          go_upto_region 18 with fail
          refine wp_region_noPanic ?_
          refine wp_region_held_drew (S := (fun w' => Only (fun x => S x ∨ T x) w2 w' ∧ w'.cell? ⟨g12, 0, none⟩ = some (.int .i64 x) ∧ w'.cell? ⟨g12, 1, none⟩ = some (.int .i64 y) ∧ w'.cell? ⟨g12, 2, none⟩ = some (.int .i64 z))) (by kernel_rfl) (HSL.out _ ((Only.refl _ _).drew)) (fun hHeld => ?_)
          have hot : Hid (Only (fun _ => False) w2 w2.drew) := Lib.hid ((Only.refl _ w2).drew)
          refine wpAnyH_take (i := 0) (v := ?_) rfl (by kernel_rfl) (by kernel_rfl) (by kernel_rfl) (fun _ _ _ h => h) (Or.inl ⟨by rfl, ?_⟩) (by assumption) ?_
          rotate_left 1
          · intro w' hSw
            try dsimp only at hSw
            go_simp
            try with_reducible rfl
          try simp only [List.getElem_toArray, List.getElem_cons_zero, Act.put, List.setIfInBounds_toArray, List.set_cons_zero, List.set_cons_succ]
          refine wpAnyH_take (i := 1) (v := ?_) rfl (by kernel_rfl) (by kernel_rfl) (by kernel_rfl) (fun _ _ _ h => h) (Or.inl ⟨by rfl, ?_⟩) (by assumption) ?_
          rotate_left 1
          · intro w' hSw
            try dsimp only at hSw
            go_simp
            try with_reducible rfl
          try simp only [List.getElem_toArray, List.getElem_cons_zero, List.getElem_cons_succ, Act.put, List.setIfInBounds_toArray, List.set_cons_zero, List.set_cons_succ]
          refine wpAnyH_take (i := 2) (v := ?_) rfl (by kernel_rfl) (by kernel_rfl) (by kernel_rfl) (fun _ _ _ h => h) (Or.inl ⟨by rfl, ?_⟩) (by assumption) ?_
          rotate_left 1
          · intro w' hSw
            try dsimp only at hSw
            go_simp
            try with_reducible rfl
          try simp only [List.getElem_toArray, List.getElem_cons_zero, List.getElem_cons_succ, Act.put, List.setIfInBounds_toArray, List.set_cons_zero, List.set_cons_succ]
          refine wpAnyH_take (i := 4) (v := ?_) rfl (by kernel_rfl) (by kernel_rfl) (by kernel_rfl) (fun _ _ _ h => h) (Or.inl ⟨by rfl, ?_⟩) (by assumption) ?_
          rotate_left 1
          · intro w' hSw
            try dsimp only at hSw
            go_simp
            try with_reducible rfl
          try simp only [List.getElem_toArray, List.getElem_cons_zero, List.getElem_cons_succ, Act.put, List.setIfInBounds_toArray, List.set_cons_zero, List.set_cons_succ]
          refine wpAnyH_take (i := 5) (v := ?_) rfl (by kernel_rfl) (by kernel_rfl) (by kernel_rfl) (fun _ _ _ h => h) (Or.inl ⟨by rfl, ?_⟩) (by assumption) ?_
          rotate_left 1
          · intro w' hSw
            try dsimp only at hSw
            go_simp
            try with_reducible rfl
          try simp only [List.getElem_toArray, List.getElem_cons_zero, List.getElem_cons_succ, Act.put, List.setIfInBounds_toArray, List.set_cons_zero, List.set_cons_succ]
          refine wpAnyH_take (i := 6) (v := ?_) rfl (by kernel_rfl) (by kernel_rfl) (by kernel_rfl) (fun _ _ _ h => h) (Or.inl ⟨by rfl, ?_⟩) (by assumption) ?_
          rotate_left 1
          · intro w' hSw
            try dsimp only at hSw
            go_simp
            try with_reducible rfl
          try simp only [List.getElem_toArray, List.getElem_cons_zero, List.getElem_cons_succ, Act.put, List.setIfInBounds_toArray, List.set_cons_zero, List.set_cons_succ]
          refine wpAnyH_ready (rs := [3]) (by kernel_rfl) (by simp) ?_
          refine AllReadyH.cons rfl (fun K hK => ?_) AllReadyH.nil
          try simp only [List.getElem_toArray, List.getElem_cons_zero, List.getElem_cons_succ]
          go_simp
          go_at_call 14
          with_reducible refine (r_tdue z (H.out.only hot.out) ).mono ?_
          rintro _ wn1 ⟨⟨ad, cd, rfl, hr, hbl⟩, ⟨V', ht⟩, ho⟩
          have HR1 := Lib.hid hr
          have HB1 := Lib.hid hbl
          clear hr hbl
          have HSZ : Hid (∀ x, T x → x < w2.heap.size) := Lib.hid (fun x hx => (H.out.2.2.2.2 x hx).2)
          have hot9 := Lib.hid ((hot.out.mono (fun _ _ f => f.elim)).trans (ho.mono fun _ _ h => .inl h) : Only (fun x => S x ∨ T x) w2 wn1)
          have h2 := Lib.hid ht
          clear ho ht
          try dsimp only
          refine hK.out _ _ (HSL.out _ hot9.out) (fun hHeld1 => ?_)
          clear hK K
          try simp only [List.getElem_toArray, List.getElem_cons_zero, List.getElem_cons_succ, Act.put, List.setIfInBounds_toArray, List.set_cons_zero, List.set_cons_succ]
          refine wpAnyH_ready (rs := [7]) (by kernel_rfl) (by simp) ?_
          refine AllReadyH.cons rfl (fun K hK => ?_) AllReadyH.nil
          try simp only [List.getElem_toArray, List.getElem_cons_zero, List.getElem_cons_succ]
          go_simp
          go_at_call 20
          with_reducible refine (r_udue z h2.out HGD.out).mono ?_
          rintro _ wn2 ⟨⟨ae, ce, rfl, hr, -⟩, ⟨V', ht⟩, ho⟩
          have HR2 := Lib.hid hr
          have hss := hot9.out.size
          replace HR1 := Lib.hid (HR1.out.only ho (fun y e hT => by have := HB1.out y e; have := HSZ.out _ hT; have e9 : w2.drew.heap.size = w2.heap.size := rfl; omega))
          clear hr hss
          have hot8 := Lib.hid (hot9.out.trans (ho.mono fun _ _ h => .inr h) : Only (fun x => S x ∨ T x) w2 wn2)
          have h3 := Lib.hid ht
          clear ho ht
          try dsimp only
          refine hK.out _ _ (HSL.out _ hot8.out) (fun hHeld2 => ?_)
          clear hK K
          try simp only [List.getElem_toArray, List.getElem_cons_zero, List.getElem_cons_succ, Act.put, List.setIfInBounds_toArray, List.set_cons_zero, List.set_cons_succ]
          refine wpAnyH_ready (rs := [8]) (by kernel_rfl) (by simp) ?_
          refine AllReadyH.cons rfl (fun K hK => ?_) AllReadyH.nil
          try simp only [List.getElem_toArray, List.getElem_cons_zero, List.getElem_cons_succ]
          go_simp
          go_at_call 19
          have HR1' := HR1.out
          have HR2' := HR2.out
          rw [List.length_map] at HR1' HR2'
          refine (same_any _ _ _ _ _ _ _ HR1' HR2').mono ?_
          rintro _ wn3 ⟨rfl, ho⟩
          clear HR1' HR2'
          replace hot8 := Lib.hid (hot8.out.trans (ho.mono fun _ _ f => f.elim) : Only (fun x => S x ∨ T x) w2 wn3)
          replace h3 := Lib.hid (h3.out.only ho)
          clear ho
          try dsimp only
          refine hK.out _ _ (HSL.out _ hot8.out) (fun hHeld3 => ?_)
          clear hK K
          try simp only [List.getElem_toArray, List.getElem_cons_zero, List.getElem_cons_succ, Act.put, List.setIfInBounds_toArray, List.set_cons_zero, List.set_cons_succ]
          refine wpAnyH_take (i := 9) (v := ?_) rfl (by kernel_rfl) (by kernel_rfl) (by kernel_rfl) (fun _ _ _ h => h) (Or.inl ⟨by rfl, ?_⟩) (by assumption) ?_
          rotate_left 1
          · intro w' hSw
            try dsimp only at hSw
            go_simp
            try with_reducible rfl
          try simp only [List.getElem_toArray, List.getElem_cons_zero, List.getElem_cons_succ, Act.put, List.setIfInBounds_toArray, List.set_cons_zero, List.set_cons_succ]
          refine wpAnyH_done (by kernel_rfl) ?_ _
          refine NoPanic.normal ?_
          have HLN : Hid ((leftM z l).length ≤ i + 1) := Lib.hid (by have : (leftM z l).length ≤ l.length := (List.dropWhile_suffix _).length_le; have := HL.out; omega)
          have HOF := Lib.hid (HO2.out.then hot8.out (fun x hx e => by
            rcases e with e | e
            · have := (H.out.2.2.2.1 x e).1; omega
            · have := (H.out.2.2.2.2 x e).1; omega))
          have HCL := Lib.hid (HSL.out _ hot8.out)
          go_wp2_with fail
          go_meet
          exact ⟨_, _, _, HLN, h3, HOF, Lib.hid HCL.out.2⟩
      case rest =>
        obtain ⟨l', S', T', HL', H', HO', HC'⟩ := hcut
        rename World => w3
        clear H HSL HO2 HGD hlen hlen9 d0 hkb HKX HL
        have HNE := Lib.hid (r_next H'.out)
        go_wp2_with fail
        refine HNE.out.mono ?_
        rintro _ w4 ⟨rfl, k4⟩
        have H4 := Lib.hid (H'.out.only k4)
        have HO4 := Lib.hid (HO'.out.trans k4)
        have HC4 : Hid (w4.cell? ⟨g12, 1, none⟩ = some (.int .i64 y)) := Lib.hid (k4.cell' HC'.out.2.1 (fun f => f))
        clear k4 H' HO' HC' HNE
        obtain ⟨ua, uc, hU, -, -⟩ := H4.out.2.1
        have HU0 := Lib.hid hU.1
        have HUR := Lib.hid hU.2.2.1
        have hul : l'.length ≤ 1000 := hU.2.2.2.2.2.2.1
        clear hU
        go_upto_region 21 with fail
        go_cut [13, 14, 164] from 120 to 163 (fun vm vn vb wx => vb = .bool false ∧ Hid (Only (fun _ => False) w4 wx))
        case first =>
          by_cases h0 : l'.length = 0
          · have HLE := Lib.hid h0
            have hnv : nextV l' = 0 := by unfold nextV; rw [if_pos h0]
            have hdc : decide (0 < l'.length) = false := decide_eq_false (by omega)
            have HS4 : Hid (∀ w', Only (fun _ => False) w4 w' → Only (fun _ => False) w4 w' ∧ w'.cell? ⟨q, 0, none⟩ = some (.slice ua 0 uc)) := Lib.hid (fun w' ho => ⟨ho, by have := ho.cell' HU0.out (fun f => f); rw [h0] at this; exact this⟩)
            simp only [hnv, hdc]
            clear hnv hdc h0
            refine wp_region_noPanic ?_
            refine wp_region_held_drew (S := (fun w' => Only (fun _ => False) w4 w' ∧ w'.cell? ⟨q, 0, none⟩ = some (.slice ua 0 uc))) (by kernel_rfl) (HS4.out _ ((Only.refl _ _).drew)) (fun hHeld => ?_)
            have hot : Hid (Only (fun _ => False) w4 w4.drew) := Lib.hid ((Only.refl _ w4).drew)
            refine wpAnyH_take (i := 0) (v := ?_) rfl (by kernel_rfl) (by kernel_rfl) (by kernel_rfl) (fun _ _ _ h => h) (Or.inl ⟨by rfl, ?_⟩) (by assumption) ?_
            rotate_left 1
            · intro w' hSw
              try dsimp only at hSw
              go_simp
              try with_reducible rfl
            try simp only [List.getElem_toArray, List.getElem_cons_zero, Act.put, List.setIfInBounds_toArray, List.set_cons_zero, List.set_cons_succ]
            refine wpAnyH_take (i := 1) (v := ?_) rfl (by kernel_rfl) (by kernel_rfl) (by kernel_rfl) (fun _ _ _ h => h) (Or.inl ⟨by rfl, ?_⟩) (by assumption) ?_
            rotate_left 1
            · intro w' hSw
              try dsimp only at hSw
              go_simp
              try with_reducible rfl
            try simp only [List.getElem_toArray, List.getElem_cons_zero, List.getElem_cons_succ, Act.put, List.setIfInBounds_toArray, List.set_cons_zero, List.set_cons_succ]
            refine wpAnyH_take (i := 2) (v := ?_) rfl (by kernel_rfl) (by kernel_rfl) (by kernel_rfl) (fun _ _ _ h => h) (Or.inl ⟨by rfl, ?_⟩) (by assumption) ?_
            rotate_left 1
            · intro w' hSw
              try dsimp only at hSw
              go_simp
              try with_reducible rfl
            try simp only [List.getElem_toArray, List.getElem_cons_zero, List.getElem_cons_succ, Act.put, List.setIfInBounds_toArray, List.set_cons_zero, List.set_cons_succ]
            refine wpAnyH_take (i := 3) (v := ?_) rfl (by kernel_rfl) (by kernel_rfl) (by kernel_rfl) (fun _ _ _ h => h) (Or.inl ⟨by rfl, ?_⟩) (by assumption) ?_
            rotate_left 1
            · intro w' hSw
              try dsimp only at hSw
              go_simp
              try with_reducible rfl
            try simp only [List.getElem_toArray, List.getElem_cons_zero, List.getElem_cons_succ, Act.put, List.setIfInBounds_toArray, List.set_cons_zero, List.set_cons_succ]
            refine wpAnyH_take (i := 4) (v := ?_) rfl (by kernel_rfl) (by kernel_rfl) (by kernel_rfl) (fun _ _ _ h => h) (Or.inl ⟨by rfl, ?_⟩) (by assumption) ?_
            rotate_left 1
            · intro w' hSw
              try dsimp only at hSw
              go_simp
              try with_reducible rfl
            try simp only [List.getElem_toArray, List.getElem_cons_zero, List.getElem_cons_succ, Act.put, List.setIfInBounds_toArray, List.set_cons_zero, List.set_cons_succ]
            refine wpAnyH_take (i := 5) (v := ?_) rfl (by kernel_rfl) (by kernel_rfl) (by kernel_rfl) (fun _ _ _ h => h) (Or.inl ⟨by rfl, ?_⟩) (by assumption) ?_
            rotate_left 1
            · intro w' hSw
              try dsimp only at hSw
              go_simp
              try with_reducible rfl
            try simp only [List.getElem_toArray, List.getElem_cons_zero, List.getElem_cons_succ, Act.put, List.setIfInBounds_toArray, List.set_cons_zero, List.set_cons_succ]
            refine wpAnyH_take (i := 6) (v := ?_) rfl (by kernel_rfl) (by kernel_rfl) (by kernel_rfl) (fun _ _ _ h => h) (Or.inl ⟨by rfl, ?_⟩) (by assumption) ?_
            rotate_left 1
            · intro w' hSw
              try dsimp only at hSw
              go_simp
              try with_reducible rfl
            try simp only [List.getElem_toArray, List.getElem_cons_zero, List.getElem_cons_succ, Act.put, List.setIfInBounds_toArray, List.set_cons_zero, List.set_cons_succ]
            refine wpAnyH_take (i := 7) (v := ?_) rfl (by kernel_rfl) (by kernel_rfl) (by kernel_rfl) (fun _ _ _ h => h) (Or.inl ⟨by rfl, ?_⟩) (by assumption) ?_
            rotate_left 1
            · intro w' hSw
              try dsimp only at hSw
              go_simp
              try with_reducible rfl
            try simp only [List.getElem_toArray, List.getElem_cons_zero, List.getElem_cons_succ, Act.put, List.setIfInBounds_toArray, List.set_cons_zero, List.set_cons_succ]
            refine wpAnyH_take (i := 8) (v := ?_) rfl (by kernel_rfl) (by kernel_rfl) (by kernel_rfl) (fun _ _ _ h => h) (Or.inl ⟨by rfl, ?_⟩) (by assumption) ?_
            rotate_left 1
            · intro w' hSw
              try dsimp only at hSw
              go_simp
              try with_reducible rfl
            try simp only [List.getElem_toArray, List.getElem_cons_zero, List.getElem_cons_succ, Act.put, List.setIfInBounds_toArray, List.set_cons_zero, List.set_cons_succ]
            refine wpAnyH_take (i := 9) (v := ?_) rfl (by kernel_rfl) (by kernel_rfl) (by kernel_rfl) (fun _ _ _ h => h) (Or.inl ⟨by rfl, ?_⟩) (by assumption) ?_
            rotate_left 1
            · intro w' hSw
              try dsimp only at hSw
              go_simp
              try with_reducible rfl
            try simp only [List.getElem_toArray, List.getElem_cons_zero, List.getElem_cons_succ, Act.put, List.setIfInBounds_toArray, List.set_cons_zero, List.set_cons_succ]
            refine wpAnyH_take (i := 10) (v := ?_) rfl (by kernel_rfl) (by kernel_rfl) (by kernel_rfl) (fun _ _ _ h => h) (Or.inl ⟨by rfl, ?_⟩) (by assumption) ?_
            rotate_left 1
            · intro w' hSw
              try dsimp only at hSw
              go_simp
              try with_reducible rfl
            try simp only [List.getElem_toArray, List.getElem_cons_zero, List.getElem_cons_succ, Act.put, List.setIfInBounds_toArray, List.set_cons_zero, List.set_cons_succ]
            refine wpAnyH_take (i := 11) (v := undef) rfl (by kernel_rfl) (by kernel_rfl) (by kernel_rfl) (fun _ _ _ h => h) (Or.inr ⟨rfl, rfl⟩) (by assumption) ?_
            try simp only [List.getElem_toArray, List.getElem_cons_zero, List.getElem_cons_succ, Act.put, List.setIfInBounds_toArray, List.set_cons_zero, List.set_cons_succ]
            refine wpAnyH_take (i := 12) (v := undef) rfl (by kernel_rfl) (by kernel_rfl) (by kernel_rfl) (fun _ _ _ h => h) (Or.inr ⟨rfl, rfl⟩) (by assumption) ?_
            try simp only [List.getElem_toArray, List.getElem_cons_zero, List.getElem_cons_succ, Act.put, List.setIfInBounds_toArray, List.set_cons_zero, List.set_cons_succ]
            refine wpAnyH_take (i := 13) (v := undef) rfl (by kernel_rfl) (by kernel_rfl) (by kernel_rfl) (fun _ _ _ h => h) (Or.inr ⟨rfl, rfl⟩) (by assumption) ?_
            try simp only [List.getElem_toArray, List.getElem_cons_zero, List.getElem_cons_succ, Act.put, List.setIfInBounds_toArray, List.set_cons_zero, List.set_cons_succ]
            refine wpAnyH_take (i := 14) (v := undef) rfl (by kernel_rfl) (by kernel_rfl) (by kernel_rfl) (fun _ _ _ h => h) (Or.inr ⟨rfl, rfl⟩) (by assumption) ?_
            try simp only [List.getElem_toArray, List.getElem_cons_zero, List.getElem_cons_succ, Act.put, List.setIfInBounds_toArray, List.set_cons_zero, List.set_cons_succ]
            refine wpAnyH_take (i := 15) (v := undef) rfl (by kernel_rfl) (by kernel_rfl) (by kernel_rfl) (fun _ _ _ h => h) (Or.inr ⟨rfl, rfl⟩) (by assumption) ?_
            try simp only [List.getElem_toArray, List.getElem_cons_zero, List.getElem_cons_succ, Act.put, List.setIfInBounds_toArray, List.set_cons_zero, List.set_cons_succ]
            refine wpAnyH_take (i := 16) (v := undef) rfl (by kernel_rfl) (by kernel_rfl) (by kernel_rfl) (fun _ _ _ h => h) (Or.inr ⟨rfl, rfl⟩) (by assumption) ?_
            try simp only [List.getElem_toArray, List.getElem_cons_zero, List.getElem_cons_succ, Act.put, List.setIfInBounds_toArray, List.set_cons_zero, List.set_cons_succ]
            refine wpAnyH_take (i := 17) (v := undef) rfl (by kernel_rfl) (by kernel_rfl) (by kernel_rfl) (fun _ _ _ h => h) (Or.inr ⟨rfl, rfl⟩) (by assumption) ?_
            try simp only [List.getElem_toArray, List.getElem_cons_zero, List.getElem_cons_succ, Act.put, List.setIfInBounds_toArray, List.set_cons_zero, List.set_cons_succ]
            refine wpAnyH_take (i := 18) (v := undef) rfl (by kernel_rfl) (by kernel_rfl) (by kernel_rfl) (fun _ _ _ h => h) (Or.inr ⟨rfl, rfl⟩) (by assumption) ?_
            try simp only [List.getElem_toArray, List.getElem_cons_zero, List.getElem_cons_succ, Act.put, List.setIfInBounds_toArray, List.set_cons_zero, List.set_cons_succ]
            refine wpAnyH_take (i := 19) (v := undef) rfl (by kernel_rfl) (by kernel_rfl) (by kernel_rfl) (fun _ _ _ h => h) (Or.inr ⟨rfl, rfl⟩) (by assumption) ?_
            try simp only [List.getElem_toArray, List.getElem_cons_zero, List.getElem_cons_succ, Act.put, List.setIfInBounds_toArray, List.set_cons_zero, List.set_cons_succ]
            refine wpAnyH_take (i := 20) (v := ?_) rfl (by kernel_rfl) (by kernel_rfl) (by kernel_rfl) (fun _ _ _ h => h) (Or.inl ⟨by rfl, ?_⟩) (by assumption) ?_
            rotate_left 1
            · intro w' hSw
              try dsimp only at hSw
              go_simp
              try with_reducible rfl
            try simp only [List.getElem_toArray, List.getElem_cons_zero, List.getElem_cons_succ, Act.put, List.setIfInBounds_toArray, List.set_cons_zero, List.set_cons_succ]
            refine wpAnyH_take (i := 21) (v := ?_) rfl (by kernel_rfl) (by kernel_rfl) (by kernel_rfl) (fun _ _ _ h => h) (Or.inl ⟨by rfl, ?_⟩) (by assumption) ?_
            rotate_left 1
            · intro w' hSw
              try dsimp only at hSw
              go_simp
              try with_reducible rfl
            try simp only [List.getElem_toArray, List.getElem_cons_zero, List.getElem_cons_succ, Act.put, List.setIfInBounds_toArray, List.set_cons_zero, List.set_cons_succ]
            refine wpAnyH_take (i := 22) (v := ?_) rfl (by kernel_rfl) (by kernel_rfl) (by kernel_rfl) (fun _ _ _ h => h) (Or.inl ⟨by rfl, ?_⟩) (by assumption) ?_
            rotate_left 1
            · intro w' hSw
              try dsimp only at hSw
              go_simp
              try with_reducible rfl
            try simp only [List.getElem_toArray, List.getElem_cons_zero, List.getElem_cons_succ, Act.put, List.setIfInBounds_toArray, List.set_cons_zero, List.set_cons_succ]
            refine wpAnyH_take (i := 23) (v := ?_) rfl (by kernel_rfl) (by kernel_rfl) (by kernel_rfl) (fun _ _ _ h => h) (Or.inl ⟨by rfl, ?_⟩) (by assumption) ?_
            rotate_left 1
            · intro w' hSw
              try dsimp only at hSw
              go_simp
              try with_reducible rfl
            try simp only [List.getElem_toArray, List.getElem_cons_zero, List.getElem_cons_succ, Act.put, List.setIfInBounds_toArray, List.set_cons_zero, List.set_cons_succ]
            refine wpAnyH_take (i := 24) (v := ?_) rfl (by kernel_rfl) (by kernel_rfl) (by kernel_rfl) (fun _ _ _ h => h) (Or.inl ⟨by rfl, ?_⟩) (by assumption) ?_
            rotate_left 1
            · intro w' hSw
              try dsimp only at hSw
              go_simp
              try with_reducible rfl
            try simp only [List.getElem_toArray, List.getElem_cons_zero, List.getElem_cons_succ, Act.put, List.setIfInBounds_toArray, List.set_cons_zero, List.set_cons_succ]
            refine wpAnyH_take (i := 25) (v := ?_) rfl (by kernel_rfl) (by kernel_rfl) (by kernel_rfl) (fun _ _ _ h => h) (Or.inl ⟨by rfl, ?_⟩) (by assumption) ?_
            rotate_left 1
            · intro w' hSw
              try dsimp only at hSw
              go_simp
              try with_reducible rfl
            try simp only [List.getElem_toArray, List.getElem_cons_zero, List.getElem_cons_succ, Act.put, List.setIfInBounds_toArray, List.set_cons_zero, List.set_cons_succ]
            refine wpAnyH_take (i := 26) (v := ?_) rfl (by kernel_rfl) (by kernel_rfl) (by kernel_rfl) (fun _ _ _ h => h) (Or.inl ⟨by rfl, ?_⟩) (by assumption) ?_
            rotate_left 1
            · intro w' hSw
              try dsimp only at hSw
              go_simp
              try with_reducible rfl
            try simp only [List.getElem_toArray, List.getElem_cons_zero, List.getElem_cons_succ, Act.put, List.setIfInBounds_toArray, List.set_cons_zero, List.set_cons_succ]
            refine wpAnyH_take (i := 27) (v := ?_) rfl (by kernel_rfl) (by kernel_rfl) (by kernel_rfl) (fun _ _ _ h => h) (Or.inl ⟨by rfl, ?_⟩) (by assumption) ?_
            rotate_left 1
            · intro w' hSw
              try dsimp only at hSw
              go_simp
              try with_reducible rfl
            try simp only [List.getElem_toArray, List.getElem_cons_zero, List.getElem_cons_succ, Act.put, List.setIfInBounds_toArray, List.set_cons_zero, List.set_cons_succ]
            refine wpAnyH_take (i := 28) (v := ?_) rfl (by kernel_rfl) (by kernel_rfl) (by kernel_rfl) (fun _ _ _ h => h) (Or.inl ⟨by rfl, ?_⟩) (by assumption) ?_
            rotate_left 1
            · intro w' hSw
              try dsimp only at hSw
              go_simp
              try with_reducible rfl
            try simp only [List.getElem_toArray, List.getElem_cons_zero, List.getElem_cons_succ, Act.put, List.setIfInBounds_toArray, List.set_cons_zero, List.set_cons_succ]
            refine wpAnyH_take (i := 29) (v := ?_) rfl (by kernel_rfl) (by kernel_rfl) (by kernel_rfl) (fun _ _ _ h => h) (Or.inl ⟨by rfl, ?_⟩) (by assumption) ?_
            rotate_left 1
            · intro w' hSw
              try dsimp only at hSw
              go_simp
              try with_reducible rfl
            try simp only [List.getElem_toArray, List.getElem_cons_zero, List.getElem_cons_succ, Act.put, List.setIfInBounds_toArray, List.set_cons_zero, List.set_cons_succ]
            refine wpAnyH_take (i := 30) (v := ?_) rfl (by kernel_rfl) (by kernel_rfl) (by kernel_rfl) (fun _ _ _ h => h) (Or.inl ⟨by rfl, ?_⟩) (by assumption) ?_
            rotate_left 1
            · intro w' hSw
              try dsimp only at hSw
              go_simp
              try with_reducible rfl
            try simp only [List.getElem_toArray, List.getElem_cons_zero, List.getElem_cons_succ, Act.put, List.setIfInBounds_toArray, List.set_cons_zero, List.set_cons_succ]
            refine wpAnyH_take (i := 31) (v := ?_) rfl (by kernel_rfl) (by kernel_rfl) (by kernel_rfl) (fun _ _ _ h => h) (Or.inl ⟨by rfl, ?_⟩) (by assumption) ?_
            rotate_left 1
            · intro w' hSw
              try dsimp only at hSw
              go_simp
              try with_reducible rfl
            try simp only [List.getElem_toArray, List.getElem_cons_zero, List.getElem_cons_succ, Act.put, List.setIfInBounds_toArray, List.set_cons_zero, List.set_cons_succ]
            refine wpAnyH_take (i := 33) (v := ?_) rfl (by kernel_rfl) (by kernel_rfl) (by kernel_rfl) (fun _ _ _ h => h) (Or.inl ⟨by rfl, ?_⟩) (by assumption) ?_
            rotate_left 1
            · intro w' hSw
              try dsimp only at hSw
              go_simp
              try with_reducible rfl
            try simp only [List.getElem_toArray, List.getElem_cons_zero, List.getElem_cons_succ, Act.put, List.setIfInBounds_toArray, List.set_cons_zero, List.set_cons_succ]
            refine wpAnyH_take (i := 34) (v := ?_) rfl (by kernel_rfl) (by kernel_rfl) (by kernel_rfl) (fun _ _ _ h => h) (Or.inl ⟨by rfl, ?_⟩) (by assumption) ?_
            rotate_left 1
            · intro w' hSw
              try dsimp only at hSw
              go_simp
              try with_reducible rfl
            try simp only [List.getElem_toArray, List.getElem_cons_zero, List.getElem_cons_succ, Act.put, List.setIfInBounds_toArray, List.set_cons_zero, List.set_cons_succ]
            refine wpAnyH_take (i := 35) (v := ?_) rfl (by kernel_rfl) (by kernel_rfl) (by kernel_rfl) (fun _ _ _ h => h) (Or.inl ⟨by rfl, ?_⟩) (by assumption) ?_
            rotate_left 1
            · intro w' hSw
              try dsimp only at hSw
              go_simp
              try with_reducible rfl
            try simp only [List.getElem_toArray, List.getElem_cons_zero, List.getElem_cons_succ, Act.put, List.setIfInBounds_toArray, List.set_cons_zero, List.set_cons_succ]
            refine wpAnyH_take (i := 36) (v := ?_) rfl (by kernel_rfl) (by kernel_rfl) (by kernel_rfl) (fun _ _ _ h => h) (Or.inl ⟨by rfl, ?_⟩) (by assumption) ?_
            rotate_left 1
            · intro w' hSw
              try dsimp only at hSw
              go_simp
              try with_reducible rfl
            try simp only [List.getElem_toArray, List.getElem_cons_zero, List.getElem_cons_succ, Act.put, List.setIfInBounds_toArray, List.set_cons_zero, List.set_cons_succ]
            refine wpAnyH_take (i := 37) (v := ?_) rfl (by kernel_rfl) (by kernel_rfl) (by kernel_rfl) (fun _ _ _ h => h) (Or.inl ⟨by rfl, ?_⟩) (by assumption) ?_
            rotate_left 1
            · intro w' hSw
              try dsimp only at hSw
              go_simp
              try with_reducible rfl
            try simp only [List.getElem_toArray, List.getElem_cons_zero, List.getElem_cons_succ, Act.put, List.setIfInBounds_toArray, List.set_cons_zero, List.set_cons_succ]
            refine wpAnyH_ready (rs := [32]) (by kernel_rfl) (by simp) ?_
            refine AllReadyH.cons rfl (fun K hK => ?_) AllReadyH.nil
            try simp only [List.getElem_toArray, List.getElem_cons_zero, List.getElem_cons_succ]
            go_simp
            go_at_call 15
            with_reducible refine (r_len (H4.out.only hot.out)).mono ?_
            rintro _ wn1 ⟨rfl, ho⟩
            replace hot := Lib.hid (hot.out.trans ho)
            clear ho
            try dsimp only
            refine hK.out _ _ (HS4.out _ hot.out) (fun hHeld1 => ?_)
            clear hK K
            try simp only [List.getElem_toArray, List.getElem_cons_zero, List.getElem_cons_succ, Act.put, List.setIfInBounds_toArray, List.set_cons_zero, List.set_cons_succ]
            refine wpAnyH_take (i := 38) (v := ?_) rfl (by kernel_rfl) (by kernel_rfl) (by kernel_rfl) (fun _ _ _ h => h) (Or.inl ⟨by rfl, ?_⟩) (by assumption) ?_
            rotate_left 1
            · intro w' hSw
              try dsimp only at hSw
              go_simp
              try with_reducible rfl
            try simp only [List.getElem_toArray, List.getElem_cons_zero, List.getElem_cons_succ, Act.put, List.setIfInBounds_toArray, List.set_cons_zero, List.set_cons_succ]
            refine wpAnyH_take (i := 39) (v := ?_) rfl (by kernel_rfl) (by kernel_rfl) (by kernel_rfl) (fun _ _ _ h => h) (Or.inl ⟨by rfl, ?_⟩) (by assumption) ?_
            rotate_left 1
            · intro w' hSw
              try dsimp only at hSw
              go_simp
              try with_reducible rfl
            try simp only [List.getElem_toArray, List.getElem_cons_zero, List.getElem_cons_succ, Act.put, List.setIfInBounds_toArray, List.set_cons_zero, List.set_cons_succ]
            refine wpAnyH_done (by kernel_rfl) ?_ _
            refine NoPanic.normal ?_
            have HOX := Lib.hid hot.out
            go_wp2_with fail
            go_meet
            exact ⟨by first | rfl | (simp; done) | (simp; exact List.eq_nil_of_length_eq_zero HLE.out) | (simp; have := HN4.out; omega) | (simp; rw [HN4.out]), HOX⟩
          · have HLE : Hid (0 < l'.length) := Lib.hid (by omega)
            obtain ⟨n4, hn4⟩ : ∃ n4, n4 = l'.length := ⟨_, rfl⟩
            have hdc : decide (0 < l'.length) = true := decide_eq_true HLE.out
            obtain ⟨nv, hnv⟩ : ∃ nv, nv = nextV l' := ⟨_, rfl⟩
            obtain ⟨ub, uo, rfl, hcl⟩ := HUR.out.2.resolve_left h0
            have HS4 : Hid (∀ w', Only (fun _ => False) w4 w' → Only (fun _ => False) w4 w' ∧ w'.cell? ⟨q, 0, none⟩ = some (.slice (some ⟨ub, uo, none⟩) n4 uc) ∧ w'.cell? ⟨ub, uo + 1, none⟩ = some (.int .i64 nv)) := Lib.hid (fun w' ho => ⟨ho, by rw [hn4]; exact ho.cell' HU0.out (fun f => f), by
              have h9 := (hcl 0 HLE.out).2
              rw [Nat.zero_mul, Nat.add_zero] at h9
              rw [hnv]; unfold nextV; rw [if_neg h0]
              exact ho.cell' h9 (fun f => f)⟩)
            simp only [hdc, ← hnv]
            have hn6 : 0 < n4 := by omega
            have hn5 : (0 : Int) < n4 := by omega
            have HN4 := Lib.hid hn4
            clear hdc hcl hnv h0 hn4
            have hnn : (nv != nv) = false := by simp
            refine wp_region_noPanic ?_
            refine wp_region_held_drew (S := (fun w' => Only (fun _ => False) w4 w' ∧ w'.cell? ⟨q, 0, none⟩ = some (.slice (some ⟨ub, uo, none⟩) n4 uc) ∧ w'.cell? ⟨ub, uo + 1, none⟩ = some (.int .i64 nv))) (by kernel_rfl) (HS4.out _ ((Only.refl _ _).drew)) (fun hHeld => ?_)
            have hot : Hid (Only (fun _ => False) w4 w4.drew) := Lib.hid ((Only.refl _ w4).drew)
            refine wpAnyH_take (i := 0) (v := ?_) rfl (by kernel_rfl) (by kernel_rfl) (by kernel_rfl) (fun _ _ _ h => h) (Or.inl ⟨by rfl, ?_⟩) (by assumption) ?_
            rotate_left 1
            · intro w' hSw
              try dsimp only at hSw
              go_simp
              try with_reducible rfl
            try simp only [List.getElem_toArray, List.getElem_cons_zero, Act.put, List.setIfInBounds_toArray, List.set_cons_zero, List.set_cons_succ]
            refine wpAnyH_take (i := 1) (v := ?_) rfl (by kernel_rfl) (by kernel_rfl) (by kernel_rfl) (fun _ _ _ h => h) (Or.inl ⟨by rfl, ?_⟩) (by assumption) ?_
            rotate_left 1
            · intro w' hSw
              try dsimp only at hSw
              go_simp
              try with_reducible rfl
            try simp only [List.getElem_toArray, List.getElem_cons_zero, List.getElem_cons_succ, Act.put, List.setIfInBounds_toArray, List.set_cons_zero, List.set_cons_succ]
            refine wpAnyH_take (i := 2) (v := ?_) rfl (by kernel_rfl) (by kernel_rfl) (by kernel_rfl) (fun _ _ _ h => h) (Or.inl ⟨by rfl, ?_⟩) (by assumption) ?_
            rotate_left 1
            · intro w' hSw
              try dsimp only at hSw
              go_simp
              try with_reducible rfl
            try simp only [List.getElem_toArray, List.getElem_cons_zero, List.getElem_cons_succ, Act.put, List.setIfInBounds_toArray, List.set_cons_zero, List.set_cons_succ]
            refine wpAnyH_take (i := 3) (v := ?_) rfl (by kernel_rfl) (by kernel_rfl) (by kernel_rfl) (fun _ _ _ h => h) (Or.inl ⟨by rfl, ?_⟩) (by assumption) ?_
            rotate_left 1
            · intro w' hSw
              try dsimp only at hSw
              go_simp
              try with_reducible rfl
            try simp only [List.getElem_toArray, List.getElem_cons_zero, List.getElem_cons_succ, Act.put, List.setIfInBounds_toArray, List.set_cons_zero, List.set_cons_succ]
            refine wpAnyH_take (i := 4) (v := ?_) rfl (by kernel_rfl) (by kernel_rfl) (by kernel_rfl) (fun _ _ _ h => h) (Or.inl ⟨by rfl, ?_⟩) (by assumption) ?_
            rotate_left 1
            · intro w' hSw
              try dsimp only at hSw
              go_simp
              try with_reducible rfl
            try simp only [List.getElem_toArray, List.getElem_cons_zero, List.getElem_cons_succ, Act.put, List.setIfInBounds_toArray, List.set_cons_zero, List.set_cons_succ]
            refine wpAnyH_take (i := 5) (v := ?_) rfl (by kernel_rfl) (by kernel_rfl) (by kernel_rfl) (fun _ _ _ h => h) (Or.inl ⟨by rfl, ?_⟩) (by assumption) ?_
            rotate_left 1
            · intro w' hSw
              try dsimp only at hSw
              go_simp
              try with_reducible rfl
            try simp only [List.getElem_toArray, List.getElem_cons_zero, List.getElem_cons_succ, Act.put, List.setIfInBounds_toArray, List.set_cons_zero, List.set_cons_succ]
            refine wpAnyH_take (i := 6) (v := ?_) rfl (by kernel_rfl) (by kernel_rfl) (by kernel_rfl) (fun _ _ _ h => h) (Or.inl ⟨by rfl, ?_⟩) (by assumption) ?_
            rotate_left 1
            · intro w' hSw
              try dsimp only at hSw
              go_simp
              try with_reducible rfl
            try simp only [List.getElem_toArray, List.getElem_cons_zero, List.getElem_cons_succ, Act.put, List.setIfInBounds_toArray, List.set_cons_zero, List.set_cons_succ]
            refine wpAnyH_take (i := 7) (v := ?_) rfl (by kernel_rfl) (by kernel_rfl) (by kernel_rfl) (fun _ _ _ h => h) (Or.inl ⟨by rfl, ?_⟩) (by assumption) ?_
            rotate_left 1
            · intro w' hSw
              try dsimp only at hSw
              go_simp
              try with_reducible rfl
            try simp only [List.getElem_toArray, List.getElem_cons_zero, List.getElem_cons_succ, Act.put, List.setIfInBounds_toArray, List.set_cons_zero, List.set_cons_succ]
            refine wpAnyH_take (i := 8) (v := ?_) rfl (by kernel_rfl) (by kernel_rfl) (by kernel_rfl) (fun _ _ _ h => h) (Or.inl ⟨by rfl, ?_⟩) (by assumption) ?_
            rotate_left 1
            · intro w' hSw
              try dsimp only at hSw
              go_simp
              try with_reducible rfl
            try simp only [List.getElem_toArray, List.getElem_cons_zero, List.getElem_cons_succ, Act.put, List.setIfInBounds_toArray, List.set_cons_zero, List.set_cons_succ]
            refine wpAnyH_take (i := 9) (v := ?_) rfl (by kernel_rfl) (by kernel_rfl) (by kernel_rfl) (fun _ _ _ h => h) (Or.inl ⟨by rfl, ?_⟩) (by assumption) ?_
            rotate_left 1
            · intro w' hSw
              try dsimp only at hSw
              go_simp
              try with_reducible rfl
            try simp only [List.getElem_toArray, List.getElem_cons_zero, List.getElem_cons_succ, Act.put, List.setIfInBounds_toArray, List.set_cons_zero, List.set_cons_succ]
            refine wpAnyH_take (i := 10) (v := ?_) rfl (by kernel_rfl) (by kernel_rfl) (by kernel_rfl) (fun _ _ _ h => h) (Or.inl ⟨by rfl, ?_⟩) (by assumption) ?_
            rotate_left 1
            · intro w' hSw
              try dsimp only at hSw
              go_simp
              try with_reducible rfl
            try simp only [List.getElem_toArray, List.getElem_cons_zero, List.getElem_cons_succ, Act.put, List.setIfInBounds_toArray, List.set_cons_zero, List.set_cons_succ]
            refine wpAnyH_take (i := 11) (v := ?_) rfl (by kernel_rfl) (by kernel_rfl) (by kernel_rfl) (fun _ _ _ h => h) (Or.inl ⟨by rfl, ?_⟩) (by assumption) ?_
            rotate_left 1
            · intro w' hSw
              try dsimp only at hSw
              go_simp
              try with_reducible rfl
            try simp only [List.getElem_toArray, List.getElem_cons_zero, List.getElem_cons_succ, Act.put, List.setIfInBounds_toArray, List.set_cons_zero, List.set_cons_succ]
            refine wpAnyH_take (i := 12) (v := ?_) rfl (by kernel_rfl) (by kernel_rfl) (by kernel_rfl) (fun _ _ _ h => h) (Or.inl ⟨by rfl, ?_⟩) (by assumption) ?_
            rotate_left 1
            · intro w' hSw
              try dsimp only at hSw
              go_simp
              try with_reducible rfl
            try simp only [List.getElem_toArray, List.getElem_cons_zero, List.getElem_cons_succ, Act.put, List.setIfInBounds_toArray, List.set_cons_zero, List.set_cons_succ]
            refine wpAnyH_take (i := 13) (v := ?_) rfl (by kernel_rfl) (by kernel_rfl) (by kernel_rfl) (fun _ _ _ h => h) (Or.inl ⟨by rfl, ?_⟩) (by assumption) ?_
            rotate_left 1
            · intro w' hSw
              try dsimp only at hSw
              go_simp
              try with_reducible rfl
            try simp only [List.getElem_toArray, List.getElem_cons_zero, List.getElem_cons_succ, Act.put, List.setIfInBounds_toArray, List.set_cons_zero, List.set_cons_succ]
            refine wpAnyH_take (i := 14) (v := ?_) rfl (by kernel_rfl) (by kernel_rfl) (by kernel_rfl) (fun _ _ _ h => h) (Or.inl ⟨by rfl, ?_⟩) (by assumption) ?_
            rotate_left 1
            · intro w' hSw
              try dsimp only at hSw
              go_simp
              try with_reducible rfl
            try simp only [List.getElem_toArray, List.getElem_cons_zero, List.getElem_cons_succ, Act.put, List.setIfInBounds_toArray, List.set_cons_zero, List.set_cons_succ]
            refine wpAnyH_take (i := 15) (v := ?_) rfl (by kernel_rfl) (by kernel_rfl) (by kernel_rfl) (fun _ _ _ h => h) (Or.inl ⟨by rfl, ?_⟩) (by assumption) ?_
            rotate_left 1
            · intro w' hSw
              try dsimp only at hSw
              go_simp
              try with_reducible rfl
            try simp only [List.getElem_toArray, List.getElem_cons_zero, List.getElem_cons_succ, Act.put, List.setIfInBounds_toArray, List.set_cons_zero, List.set_cons_succ]
            refine wpAnyH_take (i := 16) (v := ?_) rfl (by kernel_rfl) (by kernel_rfl) (by kernel_rfl) (fun _ _ _ h => h) (Or.inl ⟨by rfl, ?_⟩) (by assumption) ?_
            rotate_left 1
            · intro w' hSw
              try dsimp only at hSw
              go_simp
              try with_reducible rfl
            try simp only [List.getElem_toArray, List.getElem_cons_zero, List.getElem_cons_succ, Act.put, List.setIfInBounds_toArray, List.set_cons_zero, List.set_cons_succ]
            refine wpAnyH_take (i := 17) (v := ?_) rfl (by kernel_rfl) (by kernel_rfl) (by kernel_rfl) (fun _ _ _ h => h) (Or.inl ⟨by rfl, ?_⟩) (by assumption) ?_
            rotate_left 1
            · intro w' hSw
              try dsimp only at hSw
              go_simp
              try with_reducible rfl
            try simp only [List.getElem_toArray, List.getElem_cons_zero, List.getElem_cons_succ, Act.put, List.setIfInBounds_toArray, List.set_cons_zero, List.set_cons_succ]
            refine wpAnyH_take (i := 18) (v := ?_) rfl (by kernel_rfl) (by kernel_rfl) (by kernel_rfl) (fun _ _ _ h => h) (Or.inl ⟨by rfl, ?_⟩) (by assumption) ?_
            rotate_left 1
            · intro w' hSw
              try dsimp only at hSw
              go_simp
              try with_reducible rfl
            try simp only [List.getElem_toArray, List.getElem_cons_zero, List.getElem_cons_succ, Act.put, List.setIfInBounds_toArray, List.set_cons_zero, List.set_cons_succ]
            refine wpAnyH_take (i := 19) (v := ?_) rfl (by kernel_rfl) (by kernel_rfl) (by kernel_rfl) (fun _ _ _ h => h) (Or.inl ⟨by rfl, ?_⟩) (by assumption) ?_
            rotate_left 1
            · intro w' hSw
              try dsimp only at hSw
              go_simp
              try with_reducible rfl
            try simp only [List.getElem_toArray, List.getElem_cons_zero, List.getElem_cons_succ, Act.put, List.setIfInBounds_toArray, List.set_cons_zero, List.set_cons_succ]
            refine wpAnyH_take (i := 20) (v := ?_) rfl (by kernel_rfl) (by kernel_rfl) (by kernel_rfl) (fun _ _ _ h => h) (Or.inl ⟨by rfl, ?_⟩) (by assumption) ?_
            rotate_left 1
            · intro w' hSw
              try dsimp only at hSw
              go_simp
              try with_reducible rfl
            try simp only [List.getElem_toArray, List.getElem_cons_zero, List.getElem_cons_succ, Act.put, List.setIfInBounds_toArray, List.set_cons_zero, List.set_cons_succ]
            refine wpAnyH_take (i := 21) (v := ?_) rfl (by kernel_rfl) (by kernel_rfl) (by kernel_rfl) (fun _ _ _ h => h) (Or.inl ⟨by rfl, ?_⟩) (by assumption) ?_
            rotate_left 1
            · intro w' hSw
              try dsimp only at hSw
              go_simp
              try with_reducible rfl
            try simp only [List.getElem_toArray, List.getElem_cons_zero, List.getElem_cons_succ, Act.put, List.setIfInBounds_toArray, List.set_cons_zero, List.set_cons_succ]
            refine wpAnyH_take (i := 22) (v := ?_) rfl (by kernel_rfl) (by kernel_rfl) (by kernel_rfl) (fun _ _ _ h => h) (Or.inl ⟨by rfl, ?_⟩) (by assumption) ?_
            rotate_left 1
            · intro w' hSw
              try dsimp only at hSw
              go_simp
              try with_reducible rfl
            try simp only [List.getElem_toArray, List.getElem_cons_zero, List.getElem_cons_succ, Act.put, List.setIfInBounds_toArray, List.set_cons_zero, List.set_cons_succ]
            refine wpAnyH_take (i := 23) (v := ?_) rfl (by kernel_rfl) (by kernel_rfl) (by kernel_rfl) (fun _ _ _ h => h) (Or.inl ⟨by rfl, ?_⟩) (by assumption) ?_
            rotate_left 1
            · intro w' hSw
              try dsimp only at hSw
              go_simp
              try with_reducible rfl
            try simp only [List.getElem_toArray, List.getElem_cons_zero, List.getElem_cons_succ, Act.put, List.setIfInBounds_toArray, List.set_cons_zero, List.set_cons_succ]
            refine wpAnyH_take (i := 24) (v := ?_) rfl (by kernel_rfl) (by kernel_rfl) (by kernel_rfl) (fun _ _ _ h => h) (Or.inl ⟨by rfl, ?_⟩) (by assumption) ?_
            rotate_left 1
            · intro w' hSw
              try dsimp only at hSw
              go_simp
              try with_reducible rfl
            try simp only [List.getElem_toArray, List.getElem_cons_zero, List.getElem_cons_succ, Act.put, List.setIfInBounds_toArray, List.set_cons_zero, List.set_cons_succ]
            refine wpAnyH_take (i := 25) (v := ?_) rfl (by kernel_rfl) (by kernel_rfl) (by kernel_rfl) (fun _ _ _ h => h) (Or.inl ⟨by rfl, ?_⟩) (by assumption) ?_
            rotate_left 1
            · intro w' hSw
              try dsimp only at hSw
              go_simp
              try with_reducible rfl
            try simp only [List.getElem_toArray, List.getElem_cons_zero, List.getElem_cons_succ, Act.put, List.setIfInBounds_toArray, List.set_cons_zero, List.set_cons_succ]
            refine wpAnyH_take (i := 26) (v := undef) rfl (by kernel_rfl) (by kernel_rfl) (by kernel_rfl) (fun _ _ _ h => h) (Or.inr ⟨rfl, rfl⟩) (by assumption) ?_
            try simp only [List.getElem_toArray, List.getElem_cons_zero, List.getElem_cons_succ, Act.put, List.setIfInBounds_toArray, List.set_cons_zero, List.set_cons_succ]
            refine wpAnyH_take (i := 27) (v := undef) rfl (by kernel_rfl) (by kernel_rfl) (by kernel_rfl) (fun _ _ _ h => h) (Or.inr ⟨rfl, rfl⟩) (by assumption) ?_
            try simp only [List.getElem_toArray, List.getElem_cons_zero, List.getElem_cons_succ, Act.put, List.setIfInBounds_toArray, List.set_cons_zero, List.set_cons_succ]
            refine wpAnyH_take (i := 28) (v := ?_) rfl (by kernel_rfl) (by kernel_rfl) (by kernel_rfl) (fun _ _ _ h => h) (Or.inl ⟨by rfl, ?_⟩) (by assumption) ?_
            rotate_left 1
            · intro w' hSw
              try dsimp only at hSw
              go_simp
              try with_reducible rfl
            try simp only [List.getElem_toArray, List.getElem_cons_zero, List.getElem_cons_succ, Act.put, List.setIfInBounds_toArray, List.set_cons_zero, List.set_cons_succ]
            refine wpAnyH_take (i := 29) (v := ?_) rfl (by kernel_rfl) (by kernel_rfl) (by kernel_rfl) (fun _ _ _ h => h) (Or.inl ⟨by rfl, ?_⟩) (by assumption) ?_
            rotate_left 1
            · intro w' hSw
              try dsimp only at hSw
              go_simp
              try with_reducible rfl
            try simp only [List.getElem_toArray, List.getElem_cons_zero, List.getElem_cons_succ, Act.put, List.setIfInBounds_toArray, List.set_cons_zero, List.set_cons_succ]
            refine wpAnyH_take (i := 30) (v := ?_) rfl (by kernel_rfl) (by kernel_rfl) (by kernel_rfl) (fun _ _ _ h => h) (Or.inl ⟨by rfl, ?_⟩) (by assumption) ?_
            rotate_left 1
            · intro w' hSw
              try dsimp only at hSw
              go_simp
              try with_reducible rfl
            try simp only [List.getElem_toArray, List.getElem_cons_zero, List.getElem_cons_succ, Act.put, List.setIfInBounds_toArray, List.set_cons_zero, List.set_cons_succ]
            refine wpAnyH_take (i := 31) (v := ?_) rfl (by kernel_rfl) (by kernel_rfl) (by kernel_rfl) (fun _ _ _ h => h) (Or.inl ⟨by rfl, ?_⟩) (by assumption) ?_
            rotate_left 1
            · intro w' hSw
              try dsimp only at hSw
              go_simp
              try with_reducible rfl
            try simp only [List.getElem_toArray, List.getElem_cons_zero, List.getElem_cons_succ, Act.put, List.setIfInBounds_toArray, List.set_cons_zero, List.set_cons_succ]
            refine wpAnyH_take (i := 33) (v := ?_) rfl (by kernel_rfl) (by kernel_rfl) (by kernel_rfl) (fun _ _ _ h => h) (Or.inl ⟨by rfl, ?_⟩) (by assumption) ?_
            rotate_left 1
            · intro w' hSw
              try dsimp only at hSw
              go_simp
              try with_reducible rfl
            try simp only [List.getElem_toArray, List.getElem_cons_zero, List.getElem_cons_succ, Act.put, List.setIfInBounds_toArray, List.set_cons_zero, List.set_cons_succ]
            refine wpAnyH_take (i := 34) (v := ?_) rfl (by kernel_rfl) (by kernel_rfl) (by kernel_rfl) (fun _ _ _ h => h) (Or.inl ⟨by rfl, ?_⟩) (by assumption) ?_
            rotate_left 1
            · intro w' hSw
              try dsimp only at hSw
              go_simp
              try with_reducible rfl
            try simp only [List.getElem_toArray, List.getElem_cons_zero, List.getElem_cons_succ, Act.put, List.setIfInBounds_toArray, List.set_cons_zero, List.set_cons_succ]
            refine wpAnyH_take (i := 35) (v := ?_) rfl (by kernel_rfl) (by kernel_rfl) (by kernel_rfl) (fun _ _ _ h => h) (Or.inl ⟨by rfl, ?_⟩) (by assumption) ?_
            rotate_left 1
            · intro w' hSw
              try dsimp only at hSw
              go_simp
              try with_reducible rfl
            try simp only [List.getElem_toArray, List.getElem_cons_zero, List.getElem_cons_succ, Act.put, List.setIfInBounds_toArray, List.set_cons_zero, List.set_cons_succ]
            refine wpAnyH_take (i := 36) (v := ?_) rfl (by kernel_rfl) (by kernel_rfl) (by kernel_rfl) (fun _ _ _ h => h) (Or.inl ⟨by rfl, ?_⟩) (by assumption) ?_
            rotate_left 1
            · intro w' hSw
              try dsimp only at hSw
              go_simp
              try with_reducible rfl
            try simp only [List.getElem_toArray, List.getElem_cons_zero, List.getElem_cons_succ, Act.put, List.setIfInBounds_toArray, List.set_cons_zero, List.set_cons_succ]
            refine wpAnyH_take (i := 37) (v := ?_) rfl (by kernel_rfl) (by kernel_rfl) (by kernel_rfl) (fun _ _ _ h => h) (Or.inl ⟨by rfl, ?_⟩) (by assumption) ?_
            rotate_left 1
            · intro w' hSw
              try dsimp only at hSw
              go_simp
              try with_reducible rfl
            try simp only [List.getElem_toArray, List.getElem_cons_zero, List.getElem_cons_succ, Act.put, List.setIfInBounds_toArray, List.set_cons_zero, List.set_cons_succ]
            refine wpAnyH_ready (rs := [32]) (by kernel_rfl) (by simp) ?_
            refine AllReadyH.cons rfl (fun K hK => ?_) AllReadyH.nil
            try simp only [List.getElem_toArray, List.getElem_cons_zero, List.getElem_cons_succ]
            go_simp
            go_at_call 15
            with_reducible refine (r_len (H4.out.only hot.out)).mono ?_
            rintro _ wn1 ⟨rfl, ho⟩
            replace hot := Lib.hid (hot.out.trans ho)
            clear ho
            try dsimp only
            refine hK.out _ _ (HS4.out _ hot.out) (fun hHeld1 => ?_)
            clear hK K
            try simp only [List.getElem_toArray, List.getElem_cons_zero, List.getElem_cons_succ, Act.put, List.setIfInBounds_toArray, List.set_cons_zero, List.set_cons_succ]
            refine wpAnyH_take (i := 38) (v := ?_) rfl (by kernel_rfl) (by kernel_rfl) (by kernel_rfl) (fun _ _ _ h => h) (Or.inl ⟨by rfl, ?_⟩) (by assumption) ?_
            rotate_left 1
            · intro w' hSw
              try dsimp only at hSw
              go_simp
              try with_reducible rfl
            try simp only [List.getElem_toArray, List.getElem_cons_zero, List.getElem_cons_succ, Act.put, List.setIfInBounds_toArray, List.set_cons_zero, List.set_cons_succ]
            refine wpAnyH_take (i := 39) (v := ?_) rfl (by kernel_rfl) (by kernel_rfl) (by kernel_rfl) (fun _ _ _ h => h) (Or.inl ⟨by rfl, ?_⟩) (by assumption) ?_
            rotate_left 1
            · intro w' hSw
              try dsimp only at hSw
              go_simp
              try with_reducible rfl
            try simp only [List.getElem_toArray, List.getElem_cons_zero, List.getElem_cons_succ, Act.put, List.setIfInBounds_toArray, List.set_cons_zero, List.set_cons_succ]
            refine wpAnyH_done (by kernel_rfl) ?_ _
            refine NoPanic.normal ?_
            have HOX := Lib.hid hot.out
            go_wp2_with fail
            go_meet
            exact ⟨by first | rfl | (simp; done) | (simp; exact List.eq_nil_of_length_eq_zero HLE.out) | (simp; have := HN4.out; omega) | (simp; rw [HN4.out]), HOX⟩
        case rest =>
          obtain ⟨rfl, HO5⟩ := hcut
          rename World => w5
          go_wp2_with fail
          go_loopw [15] (fun kv wr => ∃ k : Nat, k ≤ 2 ∧ kv = .int .i64 k ∧ Hid (Only (fun _ => False) w4 wr)) (fun kv _ => 2 - (intOf kv).toNat)
          case atStart => exact ⟨0, by omega, rfl, HO5⟩
          case round =>
            clear HO5
            obtain ⟨k, hk, rfl, HOI⟩ := hrel
            have ey := HOI.out.cell' HC4.out (fun f => f)
            by_cases hk2 : k < 2
            · by_cases hk1 : k = 1
              · subst hk1
                have HAT := Lib.hid (fun w' (ho : Only (fun _ => False) w4 w') => r_at ask (H4.out.only ho))
                have HFI := Lib.hid (fun w' (ho : Only (fun _ => False) w4 w') => r_find ask (H4.out.only ho))
                rcases mIdx_lt ask l' with e | ⟨j, hj, e⟩
                · unfold atV at HAT
                  rw [e] at HAT HFI
                  rw [if_pos (show (-1 : Int) < 0 by omega), if_pos (show (-1 : Int) < 0 by omega)] at HAT
                  clear e
                  go_wp2_with fail
                  refine (HAT.out _ HOI.out).mono ?_
                  rintro _ w6 ⟨rfl, k6⟩
                  have H6 := Lib.hid (HOI.out.trans k6)
                  clear k6
                  go_wp2_with fail
                  refine (HFI.out _ H6.out).mono ?_
                  rintro _ w7 ⟨rfl, k7⟩
                  have H7 := Lib.hid (H6.out.trans k7)
                  clear k7 H6
                  go_wp2_with fail
                  go_roundw
                  case rel => exact ⟨2, by omega, by go_num, H7⟩
                  case measure => (simp [intOf] <;> omega)
                · unfold atV at HAT
                  rw [e] at HAT HFI
                  rw [if_neg (show ¬ (j : Int) < 0 by omega), if_neg (show ¬ (j : Int) < 0 by omega)] at HAT
                  rw [show ((j : Nat) : Int).toNat = j from rfl] at HAT
                  obtain ⟨ub, uo, rfl, hcl⟩ := HUR.out.2.resolve_left (by omega)
                  have HC9 := Lib.hid (hcl j hj).2
                  clear e hcl
                  generalize (l'.getD j default).a = av at *
                  have j0 : (0 : Int) ≤ j := by omega
                  have jn : (j : Int) < l'.length := by omega
                  have jl : ¬ (j : Int) < 0 := by omega
                  go_wp2_with fail
                  refine (HAT.out _ HOI.out).mono ?_
                  rintro _ w6 ⟨rfl, k6⟩
                  have H6 := Lib.hid (HOI.out.trans k6)
                  clear k6
                  go_wp2_with fail
                  refine (HFI.out _ H6.out).mono ?_
                  rintro _ w7 ⟨rfl, k7⟩
                  have H7 := Lib.hid (H6.out.trans k7)
                  have e7 := H7.out.cell' HC9.out (fun f => f)
                  have e8 := H7.out.cell' HU0.out (fun f => f)
                  have haa : (av != av) = false := by simp
                  clear k7 H6
                  go_wp2_with fail
                  go_roundw
                  case rel => exact ⟨2, by omega, by go_num, H7⟩
                  case measure => (simp [intOf] <;> omega)
              · obtain rfl : k = 0 := by omega
                have HAT := Lib.hid (fun w' (ho : Only (fun _ => False) w4 w') => r_at y (H4.out.only ho))
                have HFI := Lib.hid (fun w' (ho : Only (fun _ => False) w4 w') => r_find y (H4.out.only ho))
                rcases mIdx_lt y l' with e | ⟨j, hj, e⟩
                · unfold atV at HAT
                  rw [e] at HAT HFI
                  rw [if_pos (show (-1 : Int) < 0 by omega), if_pos (show (-1 : Int) < 0 by omega)] at HAT
                  clear e
                  go_wp2_with fail
                  refine (HAT.out _ HOI.out).mono ?_
                  rintro _ w6 ⟨rfl, k6⟩
                  have H6 := Lib.hid (HOI.out.trans k6)
                  clear k6
                  go_wp2_with fail
                  refine (HFI.out _ H6.out).mono ?_
                  rintro _ w7 ⟨rfl, k7⟩
                  have H7 := Lib.hid (H6.out.trans k7)
                  clear k7 H6
                  go_wp2_with fail
                  go_roundw
                  case rel => exact ⟨1, by omega, by go_num, H7⟩
                  case measure => (simp [intOf] <;> omega)
                · unfold atV at HAT
                  rw [e] at HAT HFI
                  rw [if_neg (show ¬ (j : Int) < 0 by omega), if_neg (show ¬ (j : Int) < 0 by omega)] at HAT
                  rw [show ((j : Nat) : Int).toNat = j from rfl] at HAT
                  obtain ⟨ub, uo, rfl, hcl⟩ := HUR.out.2.resolve_left (by omega)
                  have HC9 := Lib.hid (hcl j hj).2
                  clear e hcl
                  generalize (l'.getD j default).a = av at *
                  have j0 : (0 : Int) ≤ j := by omega
                  have jn : (j : Int) < l'.length := by omega
                  have jl : ¬ (j : Int) < 0 := by omega
                  go_wp2_with fail
                  refine (HAT.out _ HOI.out).mono ?_
                  rintro _ w6 ⟨rfl, k6⟩
                  have H6 := Lib.hid (HOI.out.trans k6)
                  clear k6
                  go_wp2_with fail
                  refine (HFI.out _ H6.out).mono ?_
                  rintro _ w7 ⟨rfl, k7⟩
                  have H7 := Lib.hid (H6.out.trans k7)
                  have e7 := H7.out.cell' HC9.out (fun f => f)
                  have e8 := H7.out.cell' HU0.out (fun f => f)
                  have haa : (av != av) = false := by simp
                  clear k7 H6
                  go_wp2_with fail
                  go_roundw
                  case rel => exact ⟨1, by omega, by go_num, H7⟩
                  case measure => (simp [intOf] <;> omega)
            · obtain rfl : k = 2 := by omega
              have HRX := Lib.hid (H4.out.only HOI.out)
              have HOX := Lib.hid (HO4.out.trans HOI.out)
              go_wp2_with fail
              go_roundw
              case rel => exact ⟨i + 1, l', S', T', by omega, by omega, by go_num, HL', HRX, HOX⟩
              case measure => simp [intOf]; omega
    · by_cases h9 : i < len
      · have k1 : (i : Int) < len := by omega
        have k2 : ¬ (i : Int) < 60 := by omega
        go_wp2_with fail
        go_ret
        exact ⟨rfl, HO.out⟩
      · have k1 : ¬ (i : Int) < len := by omega
        go_wp2_with fail
        go_ret
        exact ⟨rfl, HO.out⟩
theorem tacts_walk (a : Option Addr) (len cap : Nat) (ask : Int) (w : World) (hr : RowA w a len) :
    Calls Try.prog 3 #[.slice a len cap, .int .i64 ask] w fun e w' => e = .returned (.bool true) ∧ Below w.heap.size w w' :=
  (tacts_any a len cap ask w hr).mono fun _ _ ⟨h1, h2⟩ => ⟨h1, h2.none⟩
end Go.Proofs.Ytiohdfplgpmcdaa.tmw
