/- What the program reads of a session. -/
import Derived.Test.YthflglejhhebeaaCsV
import Derived.Test.YthflglejhhebeaaCsG
namespace Go.Proofs.Ythflglejhhebeaa.cs
open Go.RowKit mem rwg codm codp codw
set_option linter.unusedVariables false

/-- what is while the program reads a session -/
structure StS (B : Nat → Prop) (w wr : World) (rp g2 g : Nat) (x0 x1 x2 x3 : Int) (v : Value) (K : List Gr) (s : Option (List Nat)) : Prop where
  rs : RS B wr rp s
  c0 : wr.cell? ⟨g, 0, none⟩ = some (.int .i64 x0)
  c1 : wr.cell? ⟨g, 1, none⟩ = some (.int .i64 x1)
  c2 : wr.cell? ⟨g, 2, none⟩ = some (.int .i64 x2)
  c3 : wr.cell? ⟨g, 3, none⟩ = some (.int .i64 x3)
  c4 : wr.cell? ⟨g, 4, none⟩ = some v
  f4 : wr.frozen? ⟨g, 4, none⟩ = false
  own : OwnR (EG 80) wr v K
  nr : g ≠ rp
  vr : v.ownBlock ≠ some rp
  vg : v.ownBlock ≠ some g
  v2 : v.ownBlock ≠ some g2
  gw : w.heap.size ≤ g
  vw : ∀ k, v.ownBlock = some k → w.heap.size ≤ k
  z2 : ∀ k, k < 5 → ∃ u, wr.cell? ⟨g2, k, none⟩ = some u
  q2 : ∀ k, wr.frozen? ⟨g2, k, none⟩ = false
  n2 : g2 ≠ g ∧ g2 ≠ rp ∧ w.heap.size ≤ g2
  only : Only (fun q => q = rp) w wr
theorem StS.lt {B : Nat → Prop} {w wr : World} {rp g2 g : Nat} {x0 x1 x2 x3 : Int} {v : Value} {K : List Gr} {s : Option (List Nat)} (h : StS B w wr rp g2 g x0 x1 x2 x3 v K s) : g < wr.heap.size := World.block_lt_of_cell? wr _ h.c0
theorem StS.lt2 {B : Nat → Prop} {w wr : World} {rp g2 g : Nat} {x0 x1 x2 x3 : Int} {v : Value} {K : List Gr} {s : Option (List Nat)} (h : StS B w wr rp g2 g x0 x1 x2 x3 v K s) : g2 < wr.heap.size := by
  obtain ⟨u, hu⟩ := h.z2 0 (by omega)
  exact World.block_lt_of_cell? wr _ hu
theorem StS.rd {B : Nat → Prop} {w wr w' : World} {rp g2 g : Nat} {x0 x1 x2 x3 : Int} {v : Value} {K : List Gr} {s s' : Option (List Nat)} (h : StS B w wr rp g2 g x0 x1 x2 x3 v K s) (hr : RS B w' rp s') (ho : Only (fun q => q = rp) wr w') : StS B w w' rp g2 g x0 x1 x2 x3 v K s' :=
  ⟨hr, ho.cell' h.c0 h.nr, ho.cell' h.c1 h.nr, ho.cell' h.c2 h.nr, ho.cell' h.c3 h.nr, ho.cell' h.c4 h.nr, (ho.frozen (p := ⟨g, 4, none⟩) h.lt h.nr).trans h.f4, h.own.only ho (fun k e s => h.vr (by rw [e, s])), h.nr, h.vr, h.vg, h.v2, h.gw, h.vw, fun k hk => by
    obtain ⟨u, hu⟩ := h.z2 k hk
    exact ⟨u, ho.cell' hu h.n2.2.1⟩, fun k => (ho.frozen (p := ⟨g2, k, none⟩) h.lt2 h.n2.2.1).trans (h.q2 k), h.n2, h.only.trans ho⟩
/-- one grant more -/
theorem StS.app {B : Nat → Prop} {w wr w7 w8 : World} {rp g2 g : Nat} {x0 x1 x2 x3 : Int} {v v' : Value} {K K' : List Gr} {s : Option (List Nat)} (hB : ∀ q, B q → q < w.heap.size) (hrp : rp < w.heap.size) (h : StS B w wr rp g2 g x0 x1 x2 x3 v K s) (hgo : Only (fun q => v.ownBlock = some q) wr w7) (hown : OwnR (EG 80) w7 v' K') (hkk : ∀ k, v'.ownBlock = some k → v.ownBlock = some k ∨ wr.heap.size ≤ k) (h8 : w8 = w7.setCell ⟨g, 4, none⟩ v') : StS B w w8 rp g2 g x0 x1 x2 x3 v' K' s := by
  have hset : Only (fun q => q = g) w7 w8 := by rw [h8]; exact Only.set _ _ g 4 _ rfl
  have hboth : Only (fun q => v.ownBlock = some q ∨ q = g) wr w8 := (hgo.mono (fun _ _ e => .inl e)).trans (hset.mono (fun _ _ e => .inr e))
  have hsw := h.only.size
  have hlt := h.lt
  have hlt2 := h.lt2
  have hr := h.rs.lt
  have hgw := h.gw
  have hc : ∀ (j : Nat) (u : Value), j ≠ 4 → wr.cell? ⟨g, j, none⟩ = some u → w8.cell? ⟨g, j, none⟩ = some u := fun j u hj hu => by
    rw [h8, cell_other (fun e => by injection e with _ e _; omega)]
    exact hgo.cell' hu h.vg
  have h4 := hgo.cell' h.c4 h.vg
  have hf4 := (hgo.frozen (p := ⟨g, 4, none⟩) h.lt h.vg).trans h.f4
  have hn2 : ∀ e : v.ownBlock = some g2 ∨ g2 = g, False := fun e => e.elim h.v2 h.n2.1
  refine ⟨h.rs.only hboth (fun e => e.elim h.vr (fun e => h.nr e.symm)) (fun q hq e => ?_), hc 0 _ (by omega) h.c0, hc 1 _ (by omega) h.c1, hc 2 _ (by omega) h.c2, hc 3 _ (by omega) h.c3, by rw [h8]; exact cell_same h4, by rw [h8]; exact frozen_set.trans hf4, hown.only hset (fun q e e2 => ?_), h.nr, fun e => ?_, fun e => ?_, fun e => ?_, h.gw, fun k e => ?_, fun k hk => ?_, fun k => (hboth.frozen (p := ⟨g2, k, none⟩) h.lt2 hn2).trans (h.q2 k), h.n2, h.only.then hboth (fun q hq e => ?_)⟩
  · have := hB q hq
    rcases e with e | e
    · have := h.vw q e; omega
    · omega
  · have e2 : q = g := e2
    rcases hkk q e with e | e
    · exact h.vg (by rw [e, e2])
    · omega
  · rcases hkk rp e with e | e
    · exact h.vr e
    · omega
  · rcases hkk g e with e | e
    · exact h.vg e
    · omega
  · rcases hkk g2 e with e | e
    · exact h.v2 e
    · omega
  · rcases hkk k e with e | e
    · exact h.vw k e
    · omega
  · obtain ⟨u, hu⟩ := h.z2 k hk
    exact ⟨u, hboth.cell' hu hn2⟩
  · rcases e with e | e
    · have := h.vw q e; omega
    · omega
/-- a session that was read -/
def RdSess (B : Nat → Prop) (rp : Nat) (s : Option (List Nat)) (w : World) (e : Ending) (w' : World) : Prop :=
  ∃ va vc, e = .returned (.agg #[.int .i64 (rdS s).1.i, .int .i64 (rdS s).1.nd, .int .i64 (rdS s).1.num, .int .i64 (rdS s).1.dl, .slice va (rdS s).1.gs.length vc]) ∧ OwnR (EG 80) w' (.slice va (rdS s).1.gs.length vc) (rdS s).1.gs ∧ (∀ y, va = some y → w.heap.size ≤ y.block) ∧ ((rdS s).1.gs.length = 0 → va = none ∧ vc = 0) ∧ RS B w' rp (rdS s).2 ∧ Only (fun q => q = rp) w w'
set_option maxRecDepth 100000 in
set_option maxHeartbeats 8000000 in
theorem rsess_any (B : Nat → Prop) (rp : Nat) (s : Option (List Nat)) (w : World) (h : RS B w rp s) (hB : ∀ q, B q → q < w.heap.size) :
    Calls Try.prog 44 #[.pointer (some ⟨rp, 0, none⟩)] w (RdSess B rp s w) := by
  obtain ⟨i0, hi0, hz0, hz1, hz2⟩ := info_partsS info_gr
  have HS0 : Hid (SOk s) := Lib.hid h.sok
  obtain ⟨na, hna⟩ : ∃ x, x = (cs.uF s).1 := ⟨_, rfl⟩
  obtain ⟨nb, hnb⟩ : ∃ x, x = (cs.uF (cs.uF s).2).1 := ⟨_, rfl⟩
  obtain ⟨nc, hnc⟩ : ∃ x, x = (cs.uF (cs.uF (cs.uF s).2).2).1 := ⟨_, rfl⟩
  obtain ⟨ne, hne⟩ : ∃ x, x = (cs.uF (cs.uF (cs.uF (cs.uF s).2).2).2).1 := ⟨_, rfl⟩
  obtain ⟨n, hn⟩ : ∃ x, x = sn s := ⟨_, rfl⟩
  have hn4 : n ≤ 4 := by rw [hn]; exact sn_bd h.sok
  have HNA : Hid ((rdS s).1 = ⟨na, nb, nc, ne, (rdGs n (s5 s)).1⟩ ∧ (rdS s).2 = (rdGs n (s5 s)).2) := Lib.hid (by rw [hna, hnb, hnc, hne, hn]; exact ⟨rfl, rfl⟩)
  have HN1 : Hid ((uS 4611686018427387904 s).1 = na ∧ (uS 4611686018427387904 (cs.uF s).2).1 = nb ∧ (uS 4611686018427387904 (cs.uF (cs.uF s).2).2).1 = nc ∧ (uS 4611686018427387904 (cs.uF (cs.uF (cs.uF s).2).2).2).1 = ne ∧ (uS 4 (s4 s)).1 = n) := Lib.hid ⟨hna.symm, hnb.symm, hnc.symm, hne.symm, hn.symm⟩
  clear hna hnb hnc hne hn
  obtain ⟨w1, hw1⟩ : ∃ x, x = w.alloc (.cells #[.int .i64 0, .int .i64 0, .int .i64 0, .int .i64 0, .slice none 0 0] 25) := ⟨_, rfl⟩
  obtain ⟨g2, hg2⟩ : ∃ x, x = w.heap.size := ⟨_, rfl⟩
  obtain ⟨z0, z1, z2, z3, z4, hal1⟩ := sbox hw1 hg2
  have HZ : Hid (∀ k, k < 5 → ∃ u, w1.cell? ⟨g2, k, none⟩ = some u) := Lib.hid (fun k hk => by
    rcases (by omega : k = 0 ∨ k = 1 ∨ k = 2 ∨ k = 3 ∨ k = 4) with rfl | rfl | rfl | rfl | rfl
    · exact ⟨_, z0⟩
    · exact ⟨_, z1⟩
    · exact ⟨_, z2⟩
    · exact ⟨_, z3⟩
    · exact ⟨_, z4⟩)
  have HFZ : Hid (∀ j, w1.frozen? ⟨g2, j, none⟩ = false) := Lib.hid (fun j => by rw [hw1]; exact sfrozen hg2 j)
  have HR1 := Lib.hid (h.only hal1 (fun f => f) (fun _ _ f => f))
  have HO1 : Hid (Only (fun q => q = rp) w w1) := Lib.hid (hal1.mono (fun _ _ f => f.elim))
  have HRP : Hid (rp < w.heap.size) := Lib.hid h.lt
  have HG2 : Hid (g2 = w.heap.size ∧ g2 < w1.heap.size) := Lib.hid ⟨hg2, World.block_lt_of_cell? w1 _ z0⟩
  have HB := Lib.hid hB
  clear h hal1 hB z0 z1 z2 z3 z4
  go_enter Try.func44, Try.ntmps44
  go_upto_region 1 with fail
  simp only [← hw1, ← hg2]
  clear hw1 hg2
  go_wp2_with fail
  refine (guint B rp 4611686018427387904 s w1 HR1.out).mono ?_
  rintro _ w2 ⟨rfl, hrs, ho⟩
  have HR2 := Lib.hid hrs
  have HO2 := Lib.hid (HO1.out.trans ho)
  have HP2 : Hid (Only (fun q => q = rp) w1 w2) := Lib.hid (ho)
  clear hrs ho HR1 HO1
  rw [HN1.out.1]
  go_wp2_with fail
  refine (guint B rp 4611686018427387904 (cs.uF s).2 w2 HR2.out).mono ?_
  rintro _ w3 ⟨rfl, hrs, ho⟩
  have HR3 := Lib.hid hrs
  have HO3 := Lib.hid (HO2.out.trans ho)
  have HP3 : Hid (Only (fun q => q = rp) w1 w3) := Lib.hid (HP2.out.trans ho)
  clear hrs ho HR2 HO2 HP2
  rw [HN1.out.2.1]
  go_wp2_with fail
  refine (guint B rp 4611686018427387904 (cs.uF (cs.uF s).2).2 w3 HR3.out).mono ?_
  rintro _ w4 ⟨rfl, hrs, ho⟩
  have HR4 := Lib.hid hrs
  have HO4 := Lib.hid (HO3.out.trans ho)
  have HP4 : Hid (Only (fun q => q = rp) w1 w4) := Lib.hid (HP3.out.trans ho)
  clear hrs ho HR3 HO3 HP3
  rw [HN1.out.2.2.1]
  go_wp2_with fail
  refine (guint B rp 4611686018427387904 (cs.uF (cs.uF (cs.uF s).2).2).2 w4 HR4.out).mono ?_
  rintro _ w5 ⟨rfl, hrs, ho⟩
  have HR5 := Lib.hid hrs
  have HO5 := Lib.hid (HO4.out.trans ho)
  have HP5 : Hid (Only (fun q => q = rp) w1 w5) := Lib.hid (HP4.out.trans ho)
  clear hrs ho HR4 HO4 HP4
  rw [HN1.out.2.2.2.1]
  go_upto_region 2 with fail
  obtain ⟨w6, hw6⟩ : ∃ x, x = w5.alloc (.cells #[.int .i64 na, .int .i64 nb, .int .i64 nc, .int .i64 ne, .slice none 0 0] 25) := ⟨_, rfl⟩
  obtain ⟨g, hg⟩ : ∃ x, x = w5.heap.size := ⟨_, rfl⟩
  obtain ⟨b0, b1, b2, b3, b4, hal⟩ := sbox hw6 hg
  have HST6 : Hid (StS B w w6 rp g2 g (na : Int) (nb : Int) (nc : Int) (ne : Int) (.slice none 0 0) [] (s4 s)) := Lib.hid (by
    have q1 := HP5.out.size
    have q2 := HR5.out.lt
    have q3 := HG2.out
    have q4 := HRP.out
    have hne : ¬ g2 = rp := by omega
    have hb : Only (fun q => q = rp) w1 w6 := HP5.out.trans (hal.mono (fun _ _ f => f.elim))
    refine ⟨HR5.out.only hal (fun f => f) (fun _ _ f => f), b0, b1, b2, b3, b4, ?_, OwnR.nil _ _, by omega, by simp [Value.ownBlock], by simp [Value.ownBlock], by simp [Value.ownBlock], by omega, fun q e => by simp [Value.ownBlock] at e, fun k hk => ?_, fun k => (hb.frozen (p := ⟨g2, k, none⟩) q3.2 hne).trans (HFZ.out k), ⟨by omega, hne, by omega⟩, HO5.out.trans (hal.mono (fun _ _ f => f.elim))⟩
    · rw [hw6]; exact sfrozen hg 4
    · obtain ⟨u, hu⟩ := HZ.out k hk
      exact ⟨u, hb.cell' hu hne⟩)
  simp only [← hw6, ← hg]
  clear hw6 hg hal HR5 HO5 HP5 b0 b1 b2 b3 b4 HZ HFZ HG2
  go_wp2_with fail
  refine (guint B rp 4 (s4 s) w6 HST6.out.rs).mono ?_
  rintro _ w7 ⟨rfl, hrs, ho⟩
  have HST7 : Hid (StS B w w7 rp g2 g (na : Int) (nb : Int) (nc : Int) (ne : Int) (.slice none 0 0) (rdGs 0 (s5 s)).1 (rdGs 0 (s5 s)).2) := Lib.hid (HST6.out.rd hrs ho)
  clear hrs ho HST6
  rw [HN1.out.2.2.2.2]
  clear HN1
  go_wp2_with fail
  go_loopw [16] (fun iv wr => ∃ (k : Nat) (v : Value), k ≤ n ∧ iv = .int .i64 (k : Int) ∧ Hid (StS B w wr rp g2 g (na : Int) (nb : Int) (nc : Int) (ne : Int) v (rdGs k (s5 s)).1 (rdGs k (s5 s)).2) ∧ Hid (k = 0 → v = .slice none 0 0)) (fun iv _ => n - (intOf iv).toNat)
  case atStart => exact ⟨0, _, by omega, rfl, HST7, Lib.hid (fun _ => rfl)⟩
  case round =>
    clear HST7
    obtain ⟨k, v, hk, rfl, HST, HK0⟩ := hrel
    rename World => wr
    by_cases h8 : k < n
    · have hin : (k : Int) < n := by omega
      have hk0 : (0 : Int) ≤ k := by omega
      have hk64 : (k : Int) ≤ 64 := by omega
      obtain ⟨si, hsi⟩ : ∃ x, (rdGs k (s5 s)).2 = x := ⟨_, rfl⟩
      obtain ⟨xg, hxg⟩ : ∃ x : Int, ((cs.uF si).1 : Int) = x := ⟨_, rfl⟩
      obtain ⟨xu, hxu⟩ : ∃ x : Int, ((cs.uF (cs.uF si).2).1 : Int) = x := ⟨_, rfl⟩
      obtain ⟨xa, hxa⟩ : ∃ x : Int, ((cs.uF (cs.uF (cs.uF si).2).2).1 : Int) = x := ⟨_, rfl⟩
      obtain ⟨xf, hxf⟩ : ∃ x : Bool, (codp.fS (cs.uF (cs.uF (cs.uF si).2).2).2).1 = x := ⟨_, rfl⟩
      have HLE : Hid ((rdGs (k + 1) (s5 s)).1 = (rdGs k (s5 s)).1 ++ [⟨xg, xu, xa, xf⟩] ∧ (rdGs (k + 1) (s5 s)).2 = (codp.fS (cs.uF (cs.uF (cs.uF si).2).2).2).2) := Lib.hid (by
        show (rdGs k (s5 s)).1 ++ [(rdG (rdGs k (s5 s)).2).1] = _ ∧ (rdG (rdGs k (s5 s)).2).2 = _
        rw [hsi, ← hxg, ← hxu, ← hxa, ← hxf]; exact ⟨rfl, rfl⟩)
      have HKL : Hid ((rdGs k (s5 s)).1.length = k) := Lib.hid (rdGs_len _ _)
      rw [hsi] at HST
      have HU1 : Hid (∀ w', RS B w' rp si → Calls Try.prog 43 #[.pointer (some ⟨rp, 0, none⟩), .int .i64 4611686018427387904] w' (AftG B rp w' (.int .i64 xg) (cs.uF si).2)) := Lib.hid (fun w' h => by have := guint B rp 4611686018427387904 si w' h; rwa [show ((uS 4611686018427387904 si).1 : Int) = xg from hxg] at this)
      have HU2 : Hid (∀ w', RS B w' rp (cs.uF si).2 → Calls Try.prog 43 #[.pointer (some ⟨rp, 0, none⟩), .int .i64 4611686018427387904] w' (AftG B rp w' (.int .i64 xu) (cs.uF (cs.uF si).2).2)) := Lib.hid (fun w' h => by have := guint B rp 4611686018427387904 (cs.uF si).2 w' h; rwa [show ((uS 4611686018427387904 (cs.uF si).2).1 : Int) = xu from hxu] at this)
      have HU3 : Hid (∀ w', RS B w' rp (cs.uF (cs.uF si).2).2 → Calls Try.prog 43 #[.pointer (some ⟨rp, 0, none⟩), .int .i64 4611686018427387904] w' (AftG B rp w' (.int .i64 xa) (cs.uF (cs.uF (cs.uF si).2).2).2)) := Lib.hid (fun w' h => by have := guint B rp 4611686018427387904 (cs.uF (cs.uF si).2).2 w' h; rwa [show ((uS 4611686018427387904 (cs.uF (cs.uF si).2).2).1 : Int) = xa from hxa] at this)
      have HU4 : Hid (∀ w', RS B w' rp (cs.uF (cs.uF (cs.uF si).2).2).2 → Calls Try.prog 65 #[.pointer (some ⟨rp, 0, none⟩)] w' (AftG B rp w' (.bool xf) (rdGs (k + 1) (s5 s)).2)) := Lib.hid (fun w' h => by have := gflag B rp (cs.uF (cs.uF (cs.uF si).2).2).2 w' h; rw [hxf] at this; rw [HLE.out.2]; exact this)
      clear hsi hxg hxu hxa hxf
      go_wp2_with fail
      refine (HU1.out _ HST.out.rs).mono ?_
      rintro _ w2 ⟨rfl, hrs, ho⟩
      replace HST := Lib.hid (HST.out.rd hrs ho)
      clear hrs ho
      go_wp2_with fail
      refine (HU2.out _ HST.out.rs).mono ?_
      rintro _ w3 ⟨rfl, hrs, ho⟩
      replace HST := Lib.hid (HST.out.rd hrs ho)
      clear hrs ho
      go_wp2_with fail
      refine (HU3.out _ HST.out.rs).mono ?_
      rintro _ w4 ⟨rfl, hrs, ho⟩
      replace HST := Lib.hid (HST.out.rd hrs ho)
      clear hrs ho
      go_wp2_with fail
      refine (HU4.out _ HST.out.rs).mono ?_
      rintro _ w5 ⟨rfl, hrs, ho⟩
      replace HST := Lib.hid (HST.out.rd hrs ho)
      clear hrs ho
      clear HU1 HU2 HU3 HU4
      obtain ⟨va, vc, hv, -, -, -, -, -⟩ := HST.out.own.reads
      rw [HKL.out] at hv
      subst hv
      obtain ⟨wq, hwq⟩ : ∃ z, z = w5.alloc (.cells #[.int .i64 xg, .int .i64 xu, .int .i64 xa, .bool xf] 80) := ⟨_, rfl⟩
      obtain ⟨g9, hg9⟩ : ∃ z, z = w5.heap.size := ⟨_, rfl⟩
      obtain ⟨e0, e1, e2, e3, hoq⟩ := gbox hwq hg9
      have hv := hoq.cell' HST.out.c4 (fun f => f)
      have hfv : wq.frozen? ⟨g, 4, none⟩ = false := (hoq.frozen (p := ⟨g, 4, none⟩) HST.out.lt (fun f => f)).trans HST.out.f4
      have HOW2 : Hid (∀ o, (wq.alloc o).ownsRow 0 80 4 (.slice va k vc) k (gv (EG 0) (rdGs k (s5 s)).1)) := Lib.hid (fun o => by
        have h := HST.out.own.quiet (hoq.alloc o)
        unfold OwnR at h
        rw [HKL.out] at h
        exact h)
      have HRQ := Lib.hid hoq
      have hvb : (.slice va k vc : Value).ownBlock ≠ some g := HST.out.vg
      clear hoq
      go_upto_region 5 with fail
      simp only [← hwq, ← hg9]
      clear hwq hg9
      go_wp2_with (at_builtin; refine append_mine rfl _ _ 23 rfl 80 i0 _ 4 32 Try.underlying23 hi0 hz0 hz1 hz2 rfl (by decide) (.slice va k vc) k _ rfl (HOW2.out _) ⟨wq.heap.size, 0, none⟩ 1 1 (encG ⟨xg, xu, xa, xf⟩) rfl ?c1 ?c2 ?c3 ?c4 ?c5 ?_)
      case c1 => rfl
      case c2 =>
        intro j u hu
        rw [add_none, Nat.zero_add]
        exact news_one (EG 0) (x := ⟨xg, xu, xa, xf⟩) rfl rfl j u hu
      case c3 => exact (EG 0).one ⟨xg, xu, xa, xf⟩
      case c4 => (unfold maxLen; omega)
      case c5 => omega
      intro v7 w7 hown hgrow hkk
      obtain ⟨gq, bc, rfl, -⟩ := owns_form hown (by omega)
      have hgo := Only.of_grown hgrow
      have hal : Only (fun _ => False) wq (wq.alloc (.cells #[.int .i64 xg, .int .i64 xu, .int .i64 xa, .bool xf] 80)) := (Only.refl _ _).alloc _
      have hall : Only (fun _ => False) w5 (wq.alloc (.cells #[.int .i64 xg, .int .i64 xu, .int .i64 xa, .bool xf] 80)) := HRQ.out.trans hal
      have hv7 := hgo.cell' (hal.cell' hv (fun f => f)) hvb
      have hf7 : w7.frozen? ⟨g, 4, none⟩ = false := (hgo.frozen (p := ⟨g, 4, none⟩) (World.block_lt_of_cell? _ _ (hal.cell' hv (fun f => f))) hvb).trans ((hal.frozen (p := ⟨g, 4, none⟩) (World.block_lt_of_cell? wq _ hv) (fun f => f)).trans hfv)
      obtain ⟨w8, hw8⟩ : ∃ z, z = w7.setCell ⟨g, 4, none⟩ (.slice (some ⟨gq, 0, none⟩) (k + 1) bc) := ⟨_, rfl⟩
      have HST8 : Hid (StS B w w8 rp g2 g (na : Int) (nb : Int) (nc : Int) (ne : Int) (.slice (some ⟨gq, 0, none⟩) (k + 1) bc) (rdGs (k + 1) (s5 s)).1 (rdGs (k + 1) (s5 s)).2) := Lib.hid (HST.out.app HB.out HRP.out ((hall.mono (fun _ _ f => f.elim)).trans hgo) (by rw [HLE.out.1]; exact OwnR.app (E := EG 80) hown HKL.out) (fun q e => (hkk q e).imp (fun x => x) (fun e => by have := HRQ.out.size; omega)) hw8)
      clear hown hgrow hkk hgo hal hall hvb HOW2 hv HST HRQ HLE e0 e1 e2 e3 hfv HKL
      go_wp2_with fail
      rw [← hw8]
      clear hw8
      go_roundw
      case rel => exact ⟨k + 1, _, by omega, by go_num, HST8, Lib.hid (fun e => by omega)⟩
      case measure => (simp [intOf]; omega)
    · obtain rfl : k = n := by omega
      have hkn : ¬ (k : Int) < (k : Int) := by omega
      have HKL : Hid ((rdGs k (s5 s)).1.length = k) := Lib.hid (rdGs_len _ _)
      obtain ⟨va, vc, hv, -, -, -, -, -⟩ := HST.out.own.reads
      rw [HKL.out] at hv
      subst hv
      have y0 := HST.out.c0
      have y1 := HST.out.c1
      have y2 := HST.out.c2
      have y3 := HST.out.c3
      have y4 := HST.out.c4
      have hzf := HST.out.q2
      obtain ⟨z0, hz0⟩ := HST.out.z2 0 (by omega)
      obtain ⟨z1, hz1⟩ := HST.out.z2 1 (by omega)
      obtain ⟨z2, hz2⟩ := HST.out.z2 2 (by omega)
      obtain ⟨z3, hz3⟩ := HST.out.z2 3 (by omega)
      obtain ⟨z4, hz4⟩ := HST.out.z2 4 (by omega)
      go_wp2_with fail
      have z := putsR_cell g2 [.int .i64 na, .int .i64 nb, .int .i64 nc, .int .i64 ne, .slice va k vc] 0 wr (fun k hk => by
        have hk : k < 5 := hk
        rcases (by omega : k = 0 ∨ k = 1 ∨ k = 2 ∨ k = 3 ∨ k = 4) with rfl | rfl | rfl | rfl | rfl
        · exact ⟨_, hz0⟩
        · exact ⟨_, hz1⟩
        · exact ⟨_, hz2⟩
        · exact ⟨_, hz3⟩
        · exact ⟨_, hz4⟩)
      have x0 := z 0 _ rfl
      have x1 := z 1 _ rfl
      have x2 := z 2 _ rfl
      have x3 := z 3 _ rfl
      have x4 := z 4 _ rfl
      simp only [putsR, Nat.zero_add] at x0 x1 x2 x3 x4
      have hoW : Only (fun q => q = g2) wr (putsR g2 0 [.int .i64 na, .int .i64 nb, .int .i64 nc, .int .i64 ne, .slice va k vc] wr) := putsR_only g2 [.int .i64 na, .int .i64 nb, .int .i64 nc, .int .i64 ne, .slice va k vc] 0 wr
      have hgl : (rdS s).1.gs.length = k := by rw [HNA.out.1]; exact HKL.out
      refine bodyPost_ret (v := .agg #[.int .i64 na, .int .i64 nb, .int .i64 nc, .int .i64 ne, .slice va k vc]) (by simp [results, Try.results44, go_sem, x0, x1, x2, x3, x4]) rfl ⟨va, vc, by rw [hgl, HNA.out.1], ?_⟩
      have n2 := HST.out.n2
      have hrp := HRP.out
      rw [hgl, HNA.out.1, HNA.out.2]
      refine ⟨HST.out.own.only hoW (fun q e e2 => HST.out.v2 (by rw [e, e2])), fun y e => HST.out.vw y.block (by rw [e]; rfl), fun e => ?_, HST.out.rs.only hoW (fun e => n2.2.1 e.symm) (fun q hq e => ?_), HST.out.only.then hoW (fun q hq e => ?_)⟩
      · have := HK0.out e
        injection this with h1 _ h3
        exact ⟨h1, h3⟩
      · have := HB.out q hq
        have e : q = g2 := e
        omega
      · have e : q = g2 := e
        omega
end Go.Proofs.Ythflglejhhebeaa.cs
