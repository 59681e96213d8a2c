/- Entries: Write. -/
import Derived.Test.YtnhlmodhmodilaaEntS
namespace Go.Proofs.Ytnhlmodhmodilaa.entw
open Go.RowKit mem entm codm codw
set_option linter.unusedVariables false

def Written (l : List Nat) (w : World) (e : Ending) (w' : World) : Prop :=
  ∃ v', e = .returned (.tuple #[v', .int .i64 0]) ∧ OwnB w' v' l ∧ Only (fun _ => False) w w' ∧ (∀ k, v'.ownBlock = some k → w.heap.size ≤ k)

set_option maxHeartbeats 1000000 in
theorem ewrite_no (kind : Int) (a : Option Addr) (len cap : Nat) (ls : List Lg) (w : World) (h : ReadsL w a len ls) (hc : chk kind ls ≠ 0) :
    Calls Try.prog 9 #[.agg #[.int .i64 kind, .slice a len cap]] w fun e w' => e = .returned (.tuple #[.slice none 0 0, .int .i64 (chk kind ls)]) ∧ Only (fun _ => False) w w' := by
  obtain ⟨w0, hw0⟩ : ∃ w0, w0 = w.alloc (Obj.cells #[Value.int IntKind.i64 kind, Value.slice a len cap] 25) := ⟨_, rfl⟩
  have hbx : w0.cell? ⟨w.heap.size, 1, none⟩ = some (.slice a len cap) := by rw [hw0]; exact alloc_new _ _ _ _ _ _ rfl rfl
  have hby : w0.cell? ⟨w.heap.size, 0, none⟩ = some (.int .i64 kind) := by rw [hw0]; exact alloc_new _ _ _ _ _ _ rfl rfl
  have HO0 : Hid (Only (fun _ => False) w w0) := by rw [hw0]; exact Lib.hid ((Only.refl _ w).alloc _)
  have HC := Lib.hid (check_any kind a len cap ls w0 (h.only HO0.out (fun _ _ f => f)))
  have hc1 : (chk kind ls == 0) = false := by simpa using hc
  have hc2 : (chk kind ls != 0) = true := by simpa using hc
  generalize chk kind ls = c at *
  clear hc h
  go_enter Try.func9, Try.ntmps9
  go_wp2_with fail
  rw [← hw0]
  refine (HC.out).mono ?_
  rintro _ w1 ⟨rfl, ho1⟩
  have HO1 := Lib.hid (HO0.out.trans ho1)
  clear ho1 hw0 hbx hby
  go_wp2_with fail
  refine bodyPost_ret (v := .tuple #[.slice none 0 0, .int .i64 c]) (by simp [results, Try.results9, go_sem]) rfl ⟨rfl, HO1.out⟩

theorem wst_step {p : Nat} {v : Value} {l' : List Nat} {w1 wa wb : World} (hk : ∀ k, v.ownBlock = some k → w1.heap.size ≤ k) (ho : Only (fun _ => False) w1 wa) (hp : w1.heap.size ≤ p) (h : WAfter p v wa wb l' 0) :
    ∃ v', WR wb p v' l' 0 ∧ (∀ k, v'.ownBlock = some k → w1.heap.size ≤ k) ∧ Only (fun _ => False) w1 wb := by
  obtain ⟨v', h1, h2, h3⟩ := h
  refine ⟨v', h1, fun k hk' => (h3 k hk').elim (hk k) (fun e => Nat.le_trans ho.size e), ho.then h2 ?_⟩
  rintro i hi (rfl | hs)
  · omega
  · have := hk i hs
    omega

theorem wst_leg {p q : Nat} {v : Value} {l' : List Nat} {w1 wa wb : World} (hk : ∀ k, v.ownBlock = some k → w1.heap.size ≤ k) (ho : Only (fun _ => False) w1 wa) (hp : w1.heap.size ≤ p)
    (hq : q ≠ p) (hqv : v.ownBlock ≠ some q) (hql : q < wa.heap.size) (h : WAfter p v wa wb l' 0) :
    ∃ v', WR wb p v' l' 0 ∧ (∀ k, v'.ownBlock = some k → w1.heap.size ≤ k) ∧ Only (fun _ => False) w1 wb ∧ v'.ownBlock ≠ some q ∧ q < wb.heap.size ∧ (∀ j x, wa.cell? ⟨q, j, none⟩ = some x → wb.cell? ⟨q, j, none⟩ = some x) := by
  obtain ⟨v', h1, h2, h3⟩ := h
  have hs := h2.size
  refine ⟨v', h1, fun k hk' => (h3 k hk').elim (hk k) (fun e => Nat.le_trans ho.size e), ho.then h2 ?_, ?_, by omega, fun j x hx => h2.cell' hx ?_⟩
  · rintro i hi (rfl | hs)
    · omega
    · have := hk i hs
      omega
  · intro e
    rcases h3 q e with e2 | e2
    · exact hqv e2
    · omega
  · rintro (e | e)
    · exact hq e
    · exact hqv e
theorem ru_of {n : Int} (h : 0 ≤ n) : enc n.toNat = rucount n := by unfold rucount; rw [if_neg (by omega)]
theorem acc_pos {l : Lg} (h : accB l = true) : 0 ≤ l.k ∧ 0 ≤ l.n ∧ 0 ≤ l.g := by
  unfold accB nodeB at h
  repeat' split at h
  all_goals simp at h
  all_goals omega
theorem wr_block {w : World} {p : Nat} {v : Value} {l : List Nat} {e : Nat} (h : WR w p v l e) {k : Nat} (hk : v.ownBlock = some k) : k < w.heap.size := (World.ownsRow.lt h.own.1 k hk).2

set_option maxHeartbeats 4000000 in
theorem ewrite_yes (kind : Int) (a : Option Addr) (len cap : Nat) (ls : List Lg) (w : World) (h : ReadsL w a len ls) (hc : chk kind ls = 0) :
    Calls Try.prog 9 #[.agg #[.int .i64 kind, .slice a len cap]] w (Written (encE kind ls) w) := by
  obtain ⟨hkk, ⟨hl2, hl64⟩, hok, _⟩ := (chk_ok kind ls).1 hc
  obtain ⟨hk1, hk6⟩ := kind_in hkk
  have HOK := Lib.hid hok
  have HL : Hid (ls.length = len) := Lib.hid h.1
  have HI := Lib.hid h.2.2.1
  have h2 : 2 ≤ len := by have := HL.out; omega
  have h64 : len ≤ 64 := by have := HL.out; omega
  obtain ⟨b, off, rfl, hcell⟩ := h.2.2.2.resolve_left (by omega)
  have HCL := Lib.hid hcell
  obtain ⟨w0, hw0⟩ : ∃ w0, w0 = w.alloc (Obj.cells #[Value.int IntKind.i64 kind, Value.slice (some ⟨b, off, none⟩) len cap] 25) := ⟨_, rfl⟩
  have hbx : w0.cell? ⟨w.heap.size, 1, none⟩ = some (.slice (some ⟨b, off, none⟩) len cap) := by rw [hw0]; exact alloc_new _ _ _ _ _ _ rfl rfl
  have hby : w0.cell? ⟨w.heap.size, 0, none⟩ = some (.int .i64 kind) := by rw [hw0]; exact alloc_new _ _ _ _ _ _ rfl rfl
  have HO0 : Hid (Only (fun _ => False) w w0) := by rw [hw0]; exact Lib.hid ((Only.refl _ w).alloc _)
  have HC := Lib.hid (check_any kind (some ⟨b, off, none⟩) len cap ls w0 (h.only HO0.out (fun _ _ f => f)))
  rw [hc] at HC
  clear hc h hcell hl2 hl64 hok hkk
  go_enter Try.func9, Try.ntmps9
  go_wp2_with fail
  rw [← hw0]
  refine (HC.out).mono ?_
  rintro _ w1 ⟨rfl, ho1⟩
  have hbx1 := ho1.cell' hbx (fun f => f)
  have hby1 := ho1.cell' hby (fun f => f)
  have HO1 := Lib.hid (HO0.out.trans ho1)
  clear ho1 hw0 hbx hby HC HO0
  have HN := Lib.hid (new_writer w1 57)
  have HOA : Hid (∀ o, Only (fun _ => False) w1 (w1.alloc o)) := Lib.hid (fun o => (Only.refl _ w1).alloc o)
  have hby2 : (w1.alloc (Obj.cells #[Value.slice none 0 0, Value.int IntKind.i64 0] 57)).cell? ⟨w.heap.size, 0, none⟩ = some (.int .i64 kind) := (HOA.out _).cell' hby1 (fun f => f)
  have hsz1 : w.heap.size < w1.heap.size := World.block_lt_of_cell? w1 _ hby1
  go_wp2_with fail
  refine (wuint_any w1.heap.size _ [] 0 kind _ (by omega) (by omega) HN.out (by simp)).mono ?_
  rintro _ w2 ⟨rfl, hw⟩
  obtain ⟨v2, hv2, hk2, ho2⟩ := wst_step (fun k e => by cases e) (HOA.out _) (Nat.le_refl _) hw
  have hbx2 := ho2.cell' hbx1 (fun f => f)
  have HV2 := Lib.hid hv2
  have HK2 := Lib.hid hk2
  have HO2 := Lib.hid ho2
  clear hw hv2 hk2 ho2 hby1 hby2 HN HOA
  go_wp2_with fail
  refine (wuint_any w1.heap.size v2 _ 0 (len : Int) _ (by omega) (by omega) HV2.out (by have := (enc_length kind.toNat).1; simp; omega)).mono ?_
  rintro _ w3 ⟨rfl, hw⟩
  obtain ⟨v3, hv3, hk3, ho3⟩ := wst_step HK2.out HO2.out (Nat.le_refl _) hw
  have hbx3 := ho3.cell' hbx1 (fun f => f)
  have HV3 := Lib.hid hv3
  have HK3 := Lib.hid hk3
  have HO3 := Lib.hid ho3
  clear hw hv3 hk3 ho3 hbx1 hbx2 HV2 HK2 HO2
  have HE3 : Hid ([] ++ enc kind.toNat ++ enc (len : Int).toNat = rucount kind ++ rucount (len : Int)) := Lib.hid (by rw [List.nil_append, ru_of (by omega), ru_of (by omega)])
  rw [HE3.out] at HV3
  have HPL : Hid ((rucount kind ++ rucount (len : Int)).length ≤ 22) := Lib.hid (by have h1 := rucount_len kind; have h2 := rucount_len (len : Int); rw [List.length_append]; omega)
  go_wp2_with fail
  go_loopw [23] (fun i wr => ∃ k : Nat, k ≤ len ∧ i = .int .i64 k ∧ Hid (∃ v, WR wr w1.heap.size v ((rucount kind ++ rucount (len : Int)) ++ encS (ls.take k)) 0 ∧ (∀ k, v.ownBlock = some k → w1.heap.size ≤ k) ∧ Only (fun _ => False) w1 wr)) (fun i _ => len - (intOf i).toNat)
  case atStart => exact ⟨0, by omega, rfl, Lib.hid ⟨v3, by simpa [encS] using HV3.out, HK3.out, HO3.out⟩⟩
  case round =>
    obtain ⟨k, hk, rfl, HW⟩ := hrel
    by_cases h8 : k < len
    · obtain ⟨v4, hv4, hk4, ho4⟩ := HW.out
      have HWr : Hid (Only (fun _ => False) w wr) := Lib.hid (HO1.out.trans ho4)
      have HLE : Hid (((rucount kind ++ rucount (len : Int)) ++ encS (ls.take k)).length ≤ 22 + 44 * k) := Lib.hid (by have h1 := HPL.out; have h2 := encSt_len ls k; rw [List.length_append]; omega)
      obtain ⟨hc0, hc1, hc2, hc3⟩ := HCL.out k h8
      have c0 := HWr.out.cell' hc0 (fun f => f)
      have c1 := HWr.out.cell' hc1 (fun f => f)
      have c2 := HWr.out.cell' hc2 (fun f => f)
      have c3 := HWr.out.cell' hc3 (fun f => f)
      have HLM := getL_mem ls k (by rw [HL.out]; exact h8)
      have HIL := Lib.hid (HI.out _ HLM)
      have HAP := Lib.hid (acc_pos (HOK.out _ HLM).1)
      have HST := Lib.hid (encS_step ls k (by rw [HL.out]; exact h8))
      have HWS : Hid (w1.heap.size < wr.heap.size) := Lib.hid hv4.lt
      clear hc0 hc1 hc2 hc3 HLM
      generalize ls.getD k default = l at *
      obtain ⟨lk, ln, lg, la⟩ := l
      dsimp only at c0 c1 c2 c3 HIL HAP
      have HGE : Hid (∀ P : List Nat, P ++ enc lk.toNat ++ enc ln.toNat ++ enc lg.toNat ++ enc (zig la) = P ++ encG ⟨lk, ln, lg, la⟩) := Lib.hid (fun P => by
        rw [ru_of HAP.out.1, ru_of HAP.out.2.1, ru_of HAP.out.2.2]
        unfold encG
        simp only [List.append_assoc])
      have HPE : Hid (((rucount kind ++ rucount (len : Int)) ++ encS (ls.take k)) ++ encG ⟨lk, ln, lg, la⟩ = (rucount kind ++ rucount (len : Int)) ++ encS (ls.take (k + 1))) := Lib.hid (by rw [HST.out, List.append_assoc])
      generalize (rucount kind ++ rucount (len : Int)) ++ encS (ls.take k) = P at *
      have HOA : Hid (∀ o, Only (fun _ => False) wr (wr.alloc o)) := Lib.hid (fun o => (Only.refl _ wr).alloc o)
      obtain ⟨wx, hwx⟩ : ∃ wx, wx = wr.alloc (Obj.cells #[Value.int IntKind.i64 lk, Value.int IntKind.i64 ln, Value.int IntKind.i64 lg, Value.int IntKind.i64 la] 55) := ⟨_, rfl⟩
      have x0 : wx.cell? ⟨wr.heap.size, 0, none⟩ = some (.int .i64 lk) := by rw [hwx]; exact alloc_new _ _ _ _ _ _ rfl rfl
      have x1 : wx.cell? ⟨wr.heap.size, 1, none⟩ = some (.int .i64 ln) := by rw [hwx]; exact alloc_new _ _ _ _ _ _ rfl rfl
      have x2 : wx.cell? ⟨wr.heap.size, 2, none⟩ = some (.int .i64 lg) := by rw [hwx]; exact alloc_new _ _ _ _ _ _ rfl rfl
      have x3 : wx.cell? ⟨wr.heap.size, 3, none⟩ = some (.int .i64 la) := by rw [hwx]; exact alloc_new _ _ _ _ _ _ rfl rfl
      have ho5 : Only (fun _ => False) wr wx := by rw [hwx]; exact HOA.out _
      have HZ4 : Hid (wr.heap.size < wx.heap.size) := Lib.hid (by rw [hwx, size_alloc]; omega)
      have HQ : Hid (wr.heap.size ≠ w1.heap.size) := Lib.hid (by have := HWS.out; omega)
      have HQ4 : Hid (v4.ownBlock ≠ some wr.heap.size) := Lib.hid (fun e => by have := wr_block hv4 e; omega)
      have HV4 := Lib.hid (hv4.only ho5 (fun f => f) (fun _ _ f => f))
      have HK4 := Lib.hid hk4
      have HO4 := Lib.hid (ho4.trans ho5)
      have x64 := HAP.out
      obtain ⟨x64a, x64b, x64c⟩ := x64
      obtain ⟨i1, i2, i3, i4⟩ := HIL.out
      have i1' := i1.2
      have i2' := i2.2
      have i3' := i3.2
      clear hv4 hk4 ho4 ho5 HOA HW
      go_wp2_with fail
      rw [← hwx]
      clear c0 c1 c2 c3
      refine (wuint_any w1.heap.size _ _ 0 lk _ x64a i1' HV4.out (by have := HLE.out; omega)).mono ?_
      rintro _ w5 ⟨rfl, hw⟩
      obtain ⟨v5, hv, hk', ho, hq', hql', hcl⟩ := wst_leg HK4.out HO4.out (Nat.le_refl _) HQ.out HQ4.out HZ4.out hw
      have y1 := hcl 1 _ x1
      have y2 := hcl 2 _ x2
      have y3 := hcl 3 _ x3
      have HV5 := Lib.hid hv
      have HK5 := Lib.hid hk'
      have HO5 := Lib.hid ho
      have HQ5 := Lib.hid hq'
      have HZ5 := Lib.hid hql'
      clear x0 x1 x2 x3 hw hv hk' ho hq' hql' hcl
      go_wp2_with fail
      refine (wuint_any w1.heap.size _ _ 0 ln _ x64b i2' HV5.out (by have := HLE.out; have h0 := (enc_length lk.toNat).1; simp only [List.length_append]; omega)).mono ?_
      rintro _ w6 ⟨rfl, hw⟩
      obtain ⟨v6, hv, hk', ho, hq', hql', hcl⟩ := wst_leg HK5.out HO5.out (Nat.le_refl _) HQ.out HQ5.out HZ5.out hw
      have z2 := hcl 2 _ y2
      have z3 := hcl 3 _ y3
      have HV6 := Lib.hid hv
      have HK6 := Lib.hid hk'
      have HO6 := Lib.hid ho
      have HQ6 := Lib.hid hq'
      have HZ6 := Lib.hid hql'
      clear y1 y2 y3 hw hv hk' ho hq' hql' hcl
      go_wp2_with fail
      refine (wuint_any w1.heap.size _ _ 0 lg _ x64c i3' HV6.out (by have := HLE.out; have h0 := (enc_length lk.toNat).1; have h1 := (enc_length ln.toNat).1; simp only [List.length_append]; omega)).mono ?_
      rintro _ w7 ⟨rfl, hw⟩
      obtain ⟨v7, hv, hk', ho, hq', hql', hcl⟩ := wst_leg HK6.out HO6.out (Nat.le_refl _) HQ.out HQ6.out HZ6.out hw
      have u3 := hcl 3 _ z3
      have HV7 := Lib.hid hv
      have HK7 := Lib.hid hk'
      have HO7 := Lib.hid ho
      have HQ7 := Lib.hid hq'
      have HZ7 := Lib.hid hql'
      clear z2 z3 hw hv hk' ho hq' hql' hcl
      go_wp2_with fail
      refine (wint_any w1.heap.size _ _ 0 la _ i4 HV7.out (by have := HLE.out; have h0 := (enc_length lk.toNat).1; have h1 := (enc_length ln.toNat).1; have h2 := (enc_length lg.toNat).1; simp only [List.length_append]; omega)).mono ?_
      rintro _ w8 ⟨rfl, hw⟩
      obtain ⟨v8, hv, hk', ho, hq', hql', hcl⟩ := wst_leg HK7.out HO7.out (Nat.le_refl _) HQ.out HQ7.out HZ7.out hw
      have HV8 := Lib.hid hv
      have HK8 := Lib.hid hk'
      have HO8 := Lib.hid ho
      have HQ8 := Lib.hid hq'
      have HZ8 := Lib.hid hql'
      clear u3 hw hv hk' ho hq' hql' hcl
      go_wp2_with fail
      have HV9 := HV8.out
      rw [HGE.out, HPE.out] at HV9
      have HR : Hid (∃ v, WR w8 w1.heap.size v ((rucount kind ++ rucount (len : Int)) ++ encS (ls.take (k + 1))) 0 ∧ (∀ k, v.ownBlock = some k → w1.heap.size ≤ k) ∧ Only (fun _ => False) w1 w8) := Lib.hid ⟨v8, HV9, HK8.out, HO8.out⟩
      exact ⟨⟨k + 1, by omega, by go_num, HR⟩, by simp [intOf]; omega⟩
    · obtain rfl : k = len := by omega
      obtain ⟨v4, hv4, hk4, ho4⟩ := HW.out
      have HT : Hid ((rucount kind ++ rucount (k : Int)) ++ encS (ls.take k) = encE kind ls) := Lib.hid (by
        rw [List.take_of_length_le (by rw [HL.out]; omega)]
        unfold encE
        rw [HL.out, List.append_assoc])
      rw [HT.out] at hv4
      have HTL : Hid ((encE kind ls).length ≤ 140737488355328) := Lib.hid (by
        have h1 := HPL.out
        have h2 := encSt_len ls k
        rw [← HT.out, List.length_append]
        omega)
      have HV4 := Lib.hid hv4
      have HK4 := Lib.hid hk4
      have HO4 := Lib.hid ho4
      clear hv4 hk4 ho4 HW HT
      go_wp2_with fail
      refine (wbytes_any w1.heap.size v4 _ 0 _ HV4.out HTL.out).mono ?_
      rintro _ w5 ⟨v5, rfl, hv5, ho5, hk5⟩
      have HF : Hid (Written (encE kind ls) w (.returned (.tuple #[v5, .int .i64 0])) w5) := Lib.hid ⟨v5, rfl, hv5, HO1.out.trans (HO4.out.trans ho5), fun j hj => Nat.le_trans (HO1.out.trans HO4.out).size (hk5 j hj)⟩
      clear hv5 ho5 hk5
      go_wp2_with fail
      exact bodyPost_ret (v := .tuple #[v5, .int .i64 0]) (by simp [results, Try.results9, go_sem]) rfl HF.out
end Go.Proofs.Ytnhlmodhmodilaa.entw
