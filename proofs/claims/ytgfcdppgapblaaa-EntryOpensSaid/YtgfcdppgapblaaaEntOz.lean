/- EntryOpens' walk. -/
import Derived.Test.YtgfcdppgapblaaaEntPm
import Derived.Test.YtgfcdppgapblaaaAccM
import Derived.Test.YtgfcdppgapblaaaHeldL
import Derived.Deep.CutRange
import Derived.Deep.CutBlock
namespace Go.Proofs.Ytgfcdppgapblaaa.entw
open Go.RowKit mem entm accm
set_option linter.unusedVariables false

/-- Make's answer, its error known -/
def MadeAs (kind m g : Int) (path : List Int) (ee : Int) (w : World) (e : Ending) (w' : World) : Prop := Only (fun _ => False) w w' ∧
  ∃ (kk : Int) (sa : Option Addr) (sn sc : Nat), e = .returned (.tuple #[.agg #[.int .i64 kk, .slice sa sn sc], .int .i64 ee]) ∧
    (ee = 0 → kk = kind ∧ ∃ b ls, sa = some ⟨b, 0, none⟩ ∧ sn = List.length ls ∧ HasL kind m g path ls ∧ ReadsL w' (some ⟨b, 0, none⟩) ls.length ls)
theorem madeas_any (kind m g : Int) (hk : isK kind) (hg : InI g) (a : Option Addr) (len cap : Nat) (path : List Int) (ee : Int) (he : mErr kind m g path = ee) (w : World) (h : ReadsI w a len path) (hlc : len ≤ cap) (hcm : cap ≤ 9223372036854775807) :
    Calls Try.prog 7 #[.int .i64 kind, .int .i64 m, .slice a len cap, .int .i64 g] w (MadeAs kind m g path ee w) := by
  refine (makek_any kind m g hk hg a len cap path w h hlc hcm).mono ?_
  rintro e w' ⟨ho, h1⟩
  refine ⟨ho, ?_⟩
  rcases h1 with ⟨h1, rfl⟩ | ⟨h1, b, cp, ls, h2, h3, rfl⟩
  · exact ⟨0, none, 0, 0, by rw [← he, h1], fun h0 => by rw [← he, h1] at h0; cases h0⟩
  · exact ⟨kind, _, _, cp, by rw [← he, h1], fun _ => ⟨rfl, b, ls, rfl, rfl, h2, h3⟩⟩
theorem mErr_hold (m : Int) (path : List Int) (g : Int) : mErr 3 m 0 path = mErr 2 m 0 path ∧ mErr 6 m g path = mErr 4 m g path ∧ (mErr 2 m 0 path = 0 ∨ mErr 2 m 0 path = 1) ∧ (mErr 4 m g path = 0 ∨ mErr 4 m g path = 1) := by
  unfold mErr
  have e1 : okG 3 0 ↔ okG 2 0 := by unfold okG; omega
  have e2 : okG 6 g ↔ okG 4 g := by unfold okG; omega
  refine ⟨?_, ?_, ?_, ?_⟩
  · by_cases c : Fine m path ∧ okG 3 0
    · rw [if_pos c, if_pos ⟨c.1, e1.1 c.2⟩]
    · rw [if_neg c, if_neg (fun d => c ⟨d.1, e1.2 d.2⟩)]
  · by_cases c : Fine m path ∧ okG 6 g
    · rw [if_pos c, if_pos ⟨c.1, e2.1 c.2⟩]
    · rw [if_neg c, if_neg (fun d => c ⟨d.1, e2.2 d.2⟩)]
  · split; exact .inl rfl; exact .inr rfl
  · split; exact .inl rfl; exact .inr rfl
theorem two_perm {m : Int} {path : List Int} {la lb : List Lg} (ha : HasL 2 m 0 path la) (hb : HasL 3 m 0 path lb) (hm : amB m) : opp la = lb := by
  obtain ⟨a1, a2, _⟩ := ha
  obtain ⟨b1, b2, _⟩ := hb
  rw [rawL_ne (by decide)] at a1
  have hp : (opp la).Perm (rawL 3 m 0 path) := by
    rw [rawL_ne (by decide)]
    exact (a1.map _).trans (opp_raw hm.1 hm.2 path)
  have hs : Sorted (opp la) := by
    unfold Sorted opp at *
    rw [List.pairwise_map]
    exact a2
  exact sorted_one (hp.trans b1.symm) hs b2 (fun x hx y hy => raw_one x (b1.mem_iff.1 hx) y (b1.mem_iff.1 hy))
theorem small_add {x y : Int} (h1 : -9007199254740992000 ≤ x) (h2 : x ≤ 9007199254740992000) (h3 : -9007199254740992 ≤ y) (h4 : y ≤ 9007199254740992) : wrap64 (x + y) = x + y := by
  unfold wrap64; omega
theorem keepC {w wB w' : World} {mb : Nat} (hB : Only (fun _ => False) w wB) (hmb : mb = w.heap.size) (ho : Only (fun q => q = mb) wB w') {p : Addr} {v : Value} (h : w.cell? p = some v) : w'.cell? p = some v := by
  have := World.block_lt_of_cell? w _ h
  exact ho.cell' (hB.cell' h (fun f => f)) (show ¬ p.block = mb by omega)
theorem keepL {w wB w' : World} {mb g n : Nat} {ls : List Lg} (hB : Only (fun _ => False) w wB) (hmb : mb = w.heap.size) (ho : Only (fun q => q = mb) wB w') (hn : 1 ≤ n) (h : ReadsL w (some ⟨g, 0, none⟩) n ls) : ReadsL w' (some ⟨g, 0, none⟩) n ls := by
  obtain ⟨h1, h2, h3, h4⟩ := h
  obtain ⟨b, off, he, hc⟩ := h4.resolve_left (by omega)
  refine ⟨h1, h2, h3, .inr ⟨b, off, he, fun i hi => ?_⟩⟩
  obtain ⟨q0, q1, q2, q3⟩ := hc i hi
  exact ⟨keepC hB hmb ho q0, keepC hB hmb ho q1, keepC hB hmb ho q2, keepC hB hmb ho q3⟩
theorem keepI {w wB w' : World} {mb n : Nat} {a : Option Addr} {l : List Int} (hB : Only (fun _ => False) w wB) (hmb : mb = w.heap.size) (ho : Only (fun q => q = mb) wB w') (h : ReadsI w a n l) : ReadsI w' a n l := by
  obtain ⟨h1, h2, h3, h4⟩ := h
  refine ⟨h1, h2, h3, ?_⟩
  rcases h4 with h4 | ⟨b, off, he, hc⟩
  · exact .inl h4
  · exact .inr ⟨b, off, he, fun i hi => keepC hB hmb ho (hc i hi)⟩
theorem run_fieldE (k : Int) (a : Option Addr) (n c : Nat) (w : World) : (Instr.field 33 (.agg #[.int .i64 k, .slice a n c]) 1).run Try.prog w = .ok (.slice a n c) w := by
  simp [Instr.field, run_underlying Try.underlying33, run_underlying Try.underlying31, part, asAgg, isAgg, go_sem]
theorem run_buildE (k : Int) (a : Option Addr) (n c : Nat) (w : World) : (Instr.build 33 #[(0, .int .i64 k), (1, .slice a n c)]).run Try.prog w = .ok (.agg #[.int .i64 k, .slice a n c]) w := by kernel_rfl
theorem run_buildA2 (k n : Int) (w : World) : (Instr.build 38 #[(0, .int .i64 k), (1, .int .i64 n)]).run Try.prog w = .ok (.agg #[.int .i64 k, .int .i64 n, .int .i64 0]) w := by kernel_rfl
theorem run_buildA3 (k n g : Int) (w : World) : (Instr.build 38 #[(0, .int .i64 k), (1, .int .i64 n), (2, .int .i64 g)]).run Try.prog w = .ok (.agg #[.int .i64 k, .int .i64 n, .int .i64 g]) w := by kernel_rfl
theorem upd_snoc (L ls : List Lg) (k : Nat) (h : k < ls.length) (a b c d : Int) (he : ls.getD k default = ⟨a, b, c, d⟩) :
    updI (fun x y z => atS x y z (L ++ ls.take k)) a b c (atS a b c (L ++ ls.take k) + d) = fun x y z => atS x y z (L ++ ls.take (k + 1)) := by
  funext x y z
  rw [take_snocL ls k h, ← List.append_assoc, atS_snoc, he]
  unfold updI
  dsimp only
  by_cases e : x = a ∧ y = b ∧ z = c
  · obtain ⟨rfl, rfl, rfl⟩ := e
    rw [if_pos ⟨rfl, rfl, rfl⟩, if_pos ⟨rfl, rfl, rfl⟩]
  · rw [if_neg e, if_neg (fun q => e ⟨q.1.symm, q.2.1.symm, q.2.2.symm⟩)]; omega

set_option maxRecDepth 100000 in
set_option maxHeartbeats 8000000 in
theorem opens_any (amount group : Int) (hg : InI group) (a : Option Addr) (len cap : Nat) (l0 : List Int) (w : World) (h : IntsR w a len cap l0) :
    Calls Try.prog 3 #[.int .i64 amount, .slice a len cap, .int .i64 group] w fun e w' => e = .returned (.bool true) ∧ Only (fun _ => False) w w' := by
  obtain ⟨hr, hlc, hcm, hnone⟩ := h
  unfold maxLen at hcm
  have HG := Lib.hid hg
  have HR : Hid (ReadsI w a (min len 3) (l0.take (min len 3))) := Lib.hid (hr.take _ (by omega))
  generalize l0.take (min len 3) = l at *
  obtain ⟨n, hn⟩ : ∃ n, min len 3 = n := ⟨_, rfl⟩
  rw [hn] at HR
  have HNN := Lib.hid hnone
  clear hr hnone hg
  go_enter Try.func3, Try.ntmps3
  go_upto_region 1 with fail
  go_cut [1] from 20 to 24 (fun pv wx => ∃ c1 : Nat, pv = .slice a n c1 ∧ n ≤ c1 ∧ c1 ≤ 9223372036854775807 ∧ Hid (wx = w))
  case first =>
    rcases a with _ | x
    · obtain rfl : cap = 0 := HNN.out rfl
      obtain rfl : len = 0 := by omega
      obtain rfl : n = 0 := by omega
      have hm0 : min (0 : Int) 3 = 0 := by decide
      go_wp2_with fail
      go_meet
      exact ⟨0, rfl, by omega, by omega, Lib.hid rfl⟩
    · have hn3 : (len ≤ 3 ∧ n = len) ∨ (3 < len ∧ n = 3) := by omega
      rcases hn3 with ⟨h6, rfl⟩ | ⟨h6, rfl⟩
      · have h66 : (n : Int) ≤ 3 := by omega
        have hmn : min (n : Int) 3 = n := by omega
        have hn0 : (0 : Int) ≤ n := by omega
        have hnc : (n : Int) ≤ (cap : Int) := by omega
        go_wp2_with fail
        go_meet
        exact ⟨cap, rfl, hlc, hcm, Lib.hid rfl⟩
      · have h66 : (3 : Int) < len := by omega
        have hmn : min (len : Int) 3 = 3 := by omega
        have hnc : (3 : Int) ≤ (cap : Int) := by omega
        go_wp2_with fail
        go_meet
        exact ⟨cap, rfl, by omega, hcm, Lib.hid rfl⟩
  case rest =>
    obtain ⟨c1, rfl, hn1, hc1, HWX⟩ := hcut
    obtain rfl := HWX.out
    rename World => w
    have HP : Hid (∀ w', Only (fun _ => False) w w' → ReadsI w' a n l) := Lib.hid (fun w' ho => HR.out.only ho (fun _ _ f => f))
    have hn3 : n ≤ 3 := by omega
    clear HNN hn hlc hcm HWX
    obtain ⟨e1, e2, e3, e4⟩ := mErr_hold amount l group
    obtain ⟨ea, hea⟩ : ∃ x, mErr 2 amount 0 l = x := ⟨_, rfl⟩
    obtain ⟨ec, hec⟩ : ∃ x, mErr 4 amount group l = x := ⟨_, rfl⟩
    rw [hea] at e1 e3
    rw [hec] at e2 e4
    have HEA := Lib.hid hea
    have HEB := Lib.hid e1
    have HEC := Lib.hid hec
    have HED := Lib.hid e2
    clear hea hec e1 e2
    have hne1 : (ea != ea) = false := by simp
    have hne2 : (ec != ec) = false := by simp
    have HM := Lib.hid (madeas_any 2 amount 0 (by unfold isK; omega) (by unfold InI; omega) a n c1 l ea HEA.out w (HP.out w (Only.refl _ _)) hn1 hc1)
    unfold MadeAs at HM
    go_wp2_with fail
    refine HM.out.mono ?_
    rintro _ v1 ⟨ho, k1, a1, n1, c1a, rfl, hy⟩
    have HY1 := Lib.hid hy
    clear hy HM
    go_upto_region 3 with fail
    obtain ⟨b1, hb⟩ : ∃ x, x = v1.alloc (.cells #[.int .i64 k1, .slice a1 n1 c1a] 25) := ⟨_, rfl⟩
    obtain ⟨p1, hp⟩ : ∃ x, x = v1.heap.size := ⟨_, rfl⟩
    have HB1 : Hid (∀ w', Only (fun _ => False) b1 w' → w'.cell? ⟨p1, 0, none⟩ = some (.int .i64 k1) ∧ w'.cell? ⟨p1, 1, none⟩ = some (.slice a1 n1 c1a)) := Lib.hid (fun w' ho => ⟨ho.cell' (by rw [hb]; exact alloc_new _ _ _ _ _ _ hp rfl) (fun f => f), ho.cell' (by rw [hb]; exact alloc_new _ _ _ _ _ _ hp rfl) (fun f => f)⟩)
    have HV1 : Hid (Only (fun _ => False) v1 b1) := Lib.hid (by rw [hb]; exact (Only.refl _ _).alloc _)
    have HO1 : Hid (Only (fun _ => False) w b1) := Lib.hid (ho.trans HV1.out)
    simp only [← hb, ← hp]
    clear hb hp ho
    have HM := Lib.hid (madeas_any 3 amount 0 (by unfold isK; omega) (by unfold InI; omega) a n c1 l ea HEB.out b1 (HP.out b1 HO1.out) hn1 hc1)
    unfold MadeAs at HM
    go_wp2_with fail
    refine HM.out.mono ?_
    rintro _ v2 ⟨ho, k2, a2, n2, c2a, rfl, hy⟩
    have HY2 := Lib.hid hy
    clear hy HM
    go_upto_region 4 with fail
    obtain ⟨b2, hb⟩ : ∃ x, x = v2.alloc (.cells #[.int .i64 k2, .slice a2 n2 c2a] 25) := ⟨_, rfl⟩
    obtain ⟨p2, hp⟩ : ∃ x, x = v2.heap.size := ⟨_, rfl⟩
    have HB2 : Hid (∀ w', Only (fun _ => False) b2 w' → w'.cell? ⟨p2, 0, none⟩ = some (.int .i64 k2) ∧ w'.cell? ⟨p2, 1, none⟩ = some (.slice a2 n2 c2a)) := Lib.hid (fun w' ho => ⟨ho.cell' (by rw [hb]; exact alloc_new _ _ _ _ _ _ hp rfl) (fun f => f), ho.cell' (by rw [hb]; exact alloc_new _ _ _ _ _ _ hp rfl) (fun f => f)⟩)
    have HV2 : Hid (Only (fun _ => False) v2 b2) := Lib.hid (by rw [hb]; exact (Only.refl _ _).alloc _)
    have HO2 : Hid (Only (fun _ => False) b1 b2) := Lib.hid (ho.trans HV2.out)
    simp only [← hb, ← hp]
    clear hb hp ho
    have HM := Lib.hid (madeas_any 4 amount group (by unfold isK; omega) (by exact HG.out) a n c1 l ec HEC.out b2 (HP.out b2 (HO1.out.trans HO2.out)) hn1 hc1)
    unfold MadeAs at HM
    go_wp2_with fail
    refine HM.out.mono ?_
    rintro _ v3 ⟨ho, k3, a3, n3, c3a, rfl, hy⟩
    have HY3 := Lib.hid hy
    clear hy HM
    go_upto_region 5 with fail
    obtain ⟨b3, hb⟩ : ∃ x, x = v3.alloc (.cells #[.int .i64 k3, .slice a3 n3 c3a] 25) := ⟨_, rfl⟩
    obtain ⟨p3, hp⟩ : ∃ x, x = v3.heap.size := ⟨_, rfl⟩
    have HB3 : Hid (∀ w', Only (fun _ => False) b3 w' → w'.cell? ⟨p3, 0, none⟩ = some (.int .i64 k3) ∧ w'.cell? ⟨p3, 1, none⟩ = some (.slice a3 n3 c3a)) := Lib.hid (fun w' ho => ⟨ho.cell' (by rw [hb]; exact alloc_new _ _ _ _ _ _ hp rfl) (fun f => f), ho.cell' (by rw [hb]; exact alloc_new _ _ _ _ _ _ hp rfl) (fun f => f)⟩)
    have HV3 : Hid (Only (fun _ => False) v3 b3) := Lib.hid (by rw [hb]; exact (Only.refl _ _).alloc _)
    have HO3 : Hid (Only (fun _ => False) b2 b3) := Lib.hid (ho.trans HV3.out)
    simp only [← hb, ← hp]
    clear hb hp ho
    have HM := Lib.hid (madeas_any 6 amount group (by unfold isK; omega) (by exact HG.out) a n c1 l ec HED.out b3 (HP.out b3 (HO1.out.trans (HO2.out.trans HO3.out))) hn1 hc1)
    unfold MadeAs at HM
    go_wp2_with fail
    refine HM.out.mono ?_
    rintro _ v4 ⟨ho, k4, a4, n4, c4a, rfl, hy⟩
    have HY4 := Lib.hid hy
    clear hy HM
    go_upto_region 6 with fail
    obtain ⟨b4, hb⟩ : ∃ x, x = v4.alloc (.cells #[.int .i64 k4, .slice a4 n4 c4a] 25) := ⟨_, rfl⟩
    obtain ⟨p4, hp⟩ : ∃ x, x = v4.heap.size := ⟨_, rfl⟩
    have HB4 : Hid (∀ w', Only (fun _ => False) b4 w' → w'.cell? ⟨p4, 0, none⟩ = some (.int .i64 k4) ∧ w'.cell? ⟨p4, 1, none⟩ = some (.slice a4 n4 c4a)) := Lib.hid (fun w' ho => ⟨ho.cell' (by rw [hb]; exact alloc_new _ _ _ _ _ _ hp rfl) (fun f => f), ho.cell' (by rw [hb]; exact alloc_new _ _ _ _ _ _ hp rfl) (fun f => f)⟩)
    have HV4 : Hid (Only (fun _ => False) v4 b4) := Lib.hid (by rw [hb]; exact (Only.refl _ _).alloc _)
    have HO4 : Hid (Only (fun _ => False) b3 b4) := Lib.hid (ho.trans HV4.out)
    simp only [← hb, ← hp]
    clear hb hp ho
    go_wp2_with fail
    refine (ents_any _).mono ?_
    rintro _ v5 ⟨rfl, ho5⟩
    have HO45 := Lib.hid ho5
    have HO35 := Lib.hid (HO4.out.trans HO45.out)
    have HO25 := Lib.hid (HO3.out.trans HO35.out)
    have HO15 := Lib.hid (HO2.out.trans HO25.out)
    have HO5 := Lib.hid (HO1.out.trans HO15.out)
    clear ho5
    by_cases h0 : ea = 0
    · subst h0
      obtain ⟨rfl, ga, la, rfl, hna, hla, hra⟩ := HY1.out rfl
      obtain ⟨rfl, gb, lb, rfl, hnb, hlb, hrb⟩ := HY2.out rfl
      have ham : amB amount := by
        have := HEA.out
        unfold mErr at this
        split at this
        · rename_i c; exact c.1.1
        · cases this
      have hop := two_perm hla hlb ham
      have hlen : lb.length = la.length := by rw [← hop, opp_len]
      rw [hlen] at hnb hrb
      obtain ⟨na, hnn⟩ : ∃ x, la.length = x := ⟨_, rfl⟩
      rw [hnn] at hna hnb hra hrb hlen
      subst hna
      have hnb := hnb.symm
      subst hnb
      have HRA : Hid (∀ w', Only (fun _ => False) v5 w' → ReadsL w' (some ⟨ga, 0, none⟩) n1 la) := Lib.hid (fun w' ho => hra.only (HV1.out.trans (HO15.out.trans ho)) (fun _ _ f => f))
      have HRB : Hid (∀ w', Only (fun _ => False) v5 w' → ReadsL w' (some ⟨gb, 0, none⟩) n1 lb) := Lib.hid (fun w' ho => hrb.only (HV2.out.trans (HO25.out.trans ho)) (fun _ _ f => f))
      have HHA := Lib.hid hla
      have HHB := Lib.hid hlb
      have HOPP := Lib.hid hop
      have HLB := Lib.hid hlen
      have HNA := Lib.hid hnn.symm
      have HL64 : Hid (2 ≤ n1 ∧ n1 ≤ 64) := Lib.hid (by have := hla.2.2.2; omega)
      clear hla hlb hra hrb hop hlen hnn
      have HS5 : Hid (∀ w', Only (fun _ => False) v5 w' → w'.cell? ⟨p1, 0, none⟩ = some (.int .i64 2) ∧ w'.cell? ⟨p1, 1, none⟩ = some (.slice (some ⟨ga, 0, none⟩) n1 c1a) ∧ w'.cell? ⟨p2, 0, none⟩ = some (.int .i64 3) ∧ w'.cell? ⟨p2, 1, none⟩ = some (.slice (some ⟨gb, 0, none⟩) n1 c2a)) := Lib.hid (fun w' ho => ⟨(HB1.out w' (HO15.out.trans ho)).1, (HB1.out w' (HO15.out.trans ho)).2, (HB2.out w' (HO25.out.trans ho)).1, (HB2.out w' (HO25.out.trans ho)).2⟩)
      have hopp : ∀ w', Only (fun _ => False) v5 w' → _ := fun w' (ho : Only (fun _ => False) v5 w') => opp_any 2 (some ⟨ga, 0, none⟩) c1a la w' (by rw [← HNA.out]; exact HRA.out w' ho) (by have := HNA.out; have := HL64.out; omega) (fun e => by have := HNA.out; rw [e] at this; have := HL64.out; simp at *; omega)
      rw [← HNA.out, HOPP.out] at hopp
      unfold LegsMade at hopp
      have HOP := Lib.hid hopp
      have HFR : Hid (∀ w', Only (fun _ => False) v5 w' → _) := Lib.hid (fun w' (ho : Only (fun _ => False) v5 w') => from_any 3 (some ⟨gb, 0, none⟩) n1 c2a lb w' (HRB.out w' ho) (by have := HL64.out; omega))
      unfold LegsMade at HFR
      clear hopp
      have hfe := run_fieldE
      have hbe := run_buildE
      go_upto_region 10 with fail
      refine wp_region_noPanic ?_
      refine late.region (fun w' => w'.cell? ⟨p1, 0, none⟩ = some (.int .i64 2) ∧ w'.cell? ⟨p1, 1, none⟩ = some (.slice (some ⟨ga, 0, none⟩) n1 c1a) ∧ w'.cell? ⟨p2, 0, none⟩ = some (.int .i64 3) ∧ w'.cell? ⟨p2, 1, none⟩ = some (.slice (some ⟨gb, 0, none⟩) n1 c2a)) (fun j => [].contains j) (by kernel_rfl) (HS5.out _ (Only.refl _ _).drew) (fun hHeld => ?_)
      obtain ⟨z0, hz0⟩ : ∃ x, x = v5.drew := ⟨_, rfl⟩
      rw [← hz0] at hHeld ⊢
      have hot : Hid (Only (fun q => False) v5 z0) := Lib.hid (by rw [hz0]; exact (Only.refl _ _).drew)
      clear hz0
      refine late.take (i := 0) [1, 2, 6, 7, 8, 9, 10] (v := ?_) rfl (by kernel_rfl) (by kernel_rfl) (by kernel_rfl) (by kernel_rfl) (fun _ _ _ h => h) (Or.inl ⟨by rfl, ?_⟩) (by assumption) ?_
      rotate_left 1
      · intro w' hSw
        try dsimp only at hSw
        go_simp
        try with_reducible rfl
      try simp only [List.getElem_toArray, List.getElem_cons_zero, Act.put, List.setIfInBounds_toArray, List.set_cons_zero, List.set_cons_succ]
      refine late.take (i := 3) [4, 8, 9, 10] (v := ?_) rfl (by kernel_rfl) (by kernel_rfl) (by kernel_rfl) (by kernel_rfl) (fun _ _ _ h => h) (Or.inl ⟨by rfl, ?_⟩) (by assumption) ?_
      rotate_left 1
      · intro w' hSw
        try dsimp only at hSw
        go_simp
        try with_reducible rfl
      try simp only [List.getElem_toArray, List.getElem_cons_zero, List.getElem_cons_succ, Act.put, List.setIfInBounds_toArray, List.set_cons_zero, List.set_cons_succ]
      refine late.take (i := 4) [8, 9, 10] (v := ?_) rfl (by kernel_rfl) (by kernel_rfl) (by kernel_rfl) (by kernel_rfl) (fun _ _ _ h => h) (Or.inl ⟨by rfl, ?_⟩) (by assumption) ?_
      rotate_left 1
      · intro w' hSw
        try dsimp only at hSw
        go_simp
        try with_reducible rfl
      try simp only [List.getElem_toArray, List.getElem_cons_zero, List.getElem_cons_succ, Act.put, List.setIfInBounds_toArray, List.set_cons_zero, List.set_cons_succ]
      refine late.take (i := 5) [6, 7, 8, 9, 10] (v := ?_) rfl (by kernel_rfl) (by kernel_rfl) (by kernel_rfl) (by kernel_rfl) (fun _ _ _ h => h) (Or.inl ⟨by rfl, ?_⟩) (by assumption) ?_
      rotate_left 1
      · intro w' hSw
        try dsimp only at hSw
        go_simp
        try with_reducible rfl
      try simp only [List.getElem_toArray, List.getElem_cons_zero, List.getElem_cons_succ, Act.put, List.setIfInBounds_toArray, List.set_cons_zero, List.set_cons_succ]
      refine late.ready (rs := [1]) (by kernel_rfl) (by simp) ?_
      refine late.Each.cons rfl (fun K hK => ?_) late.Each.nil
      try simp only [List.getElem_toArray, List.getElem_cons_zero, List.getElem_cons_succ]
      go_simp
      go_at_call 11
      with_reducible refine (HOP.out _ hot.out).mono ?_
      rintro _ W1 ⟨oa, oc, rfl, hfr, -, hon, ho⟩
      rw [HLB.out]
      have HFA := Lib.hid (HLB.out ▸ hfr)
      have HFN := Lib.hid hon
      clear hfr hon
      replace hot := Lib.hid (hot.out.trans ho)
      clear ho
      try dsimp only
      refine hK.out _ _ (fun _ => HS5.out _ hot.out) (fun hHeld1 => ?_)
      replace hHeld1 := hHeld1 rfl
      clear hK K
      try simp only [List.getElem_toArray, List.getElem_cons_zero, List.getElem_cons_succ, Act.put, List.setIfInBounds_toArray, List.set_cons_zero, List.set_cons_succ]
      refine late.ready (rs := [2]) (by kernel_rfl) (by simp) ?_
      refine late.Each.cons rfl (fun K hK => ?_) late.Each.nil
      try simp only [List.getElem_toArray, List.getElem_cons_zero, List.getElem_cons_succ]
      go_simp
      go_at_call 10
      with_reducible refine (from_any 2 oa n1 oc lb _ HFA.out (by have := HL64.out; omega)).mono ?_
      rintro _ W2 ⟨fa, fc, rfl, hfr, -, -, ho⟩
      rw [HLB.out]
      have HFF := Lib.hid (HLB.out ▸ hfr)
      clear hfr
      replace hot := Lib.hid (hot.out.trans ho)
      clear ho
      try dsimp only
      refine hK.out _ _ (fun _ => HS5.out _ hot.out) (fun hHeld2 => ?_)
      replace hHeld2 := hHeld2 rfl
      clear hK K
      try simp only [List.getElem_toArray, List.getElem_cons_zero, List.getElem_cons_succ, Act.put, List.setIfInBounds_toArray, List.set_cons_zero, List.set_cons_succ]
      refine late.ready (rs := [6]) (by kernel_rfl) (by simp) ?_
      refine late.Each.cons rfl (fun K hK => ?_) late.Each.nil
      try simp only [List.getElem_toArray, List.getElem_cons_zero, List.getElem_cons_succ]
      go_simp
      go_at_call 10
      with_reducible refine (HFR.out _ hot.out).mono ?_
      rintro _ W3 ⟨fa2, fc2, rfl, hfr, -, -, ho⟩
      rw [HLB.out]
      have HFG := Lib.hid (HLB.out ▸ hfr)
      have HFF2 := Lib.hid (HFF.out.only ho (fun _ _ f => f))
      clear hfr
      replace hot := Lib.hid (hot.out.trans ho)
      clear ho
      try dsimp only
      refine hK.out _ _ (fun _ => HS5.out _ hot.out) (fun hHeld3 => ?_)
      replace hHeld3 := hHeld3 rfl
      clear hK K
      try simp only [List.getElem_toArray, List.getElem_cons_zero, List.getElem_cons_succ, Act.put, List.setIfInBounds_toArray, List.set_cons_zero, List.set_cons_succ]
      refine late.take (i := 7) [8, 9, 10] (v := ?_) rfl (by kernel_rfl) (by kernel_rfl) (by kernel_rfl) (by kernel_rfl) (fun _ _ _ h => h) (Or.inl ⟨by rfl, ?_⟩) (by assumption) ?_
      rotate_left 1
      · intro w' hSw
        try dsimp only at hSw
        go_simp
        try with_reducible rfl
      try simp only [List.getElem_toArray, List.getElem_cons_zero, List.getElem_cons_succ, Act.put, List.setIfInBounds_toArray, List.set_cons_zero, List.set_cons_succ]
      refine late.take (i := 8) [9, 10] (v := ?_) rfl (by kernel_rfl) (by kernel_rfl) (by kernel_rfl) (by kernel_rfl) (fun _ _ _ h => h) (Or.inl ⟨by rfl, ?_⟩) (by assumption) ?_
      rotate_left 1
      · intro w' hSw
        try dsimp only at hSw
        go_simp
        try with_reducible rfl
      try simp only [List.getElem_toArray, List.getElem_cons_zero, List.getElem_cons_succ, Act.put, List.setIfInBounds_toArray, List.set_cons_zero, List.set_cons_succ]
      refine late.ready (rs := [9]) (by kernel_rfl) (by simp) ?_
      refine late.Each.cons rfl (fun K hK => ?_) late.Each.nil
      try simp only [List.getElem_toArray, List.getElem_cons_zero, List.getElem_cons_succ]
      go_simp
      go_at_call 9
      with_reducible refine (same_yes 2 fa fa2 n1 fc fc2 lb _ HFF2.out HFG.out).mono ?_
      rintro _ W4 ⟨rfl, ho⟩
      replace hot := Lib.hid (hot.out.trans ho)
      clear ho
      try dsimp only
      refine hK.out _ _ (fun _ => HS5.out _ hot.out) (fun hHeld4 => ?_)
      replace hHeld4 := hHeld4 rfl
      clear hK K
      try simp only [List.getElem_toArray, List.getElem_cons_zero, List.getElem_cons_succ, Act.put, List.setIfInBounds_toArray, List.set_cons_zero, List.set_cons_succ]
      refine late.take (i := 10) [] (v := ?_) rfl (by kernel_rfl) (by kernel_rfl) (by kernel_rfl) (by kernel_rfl) (fun _ _ _ h => h) (Or.inl ⟨by rfl, ?_⟩) (by assumption) ?_
      rotate_left 1
      · intro w' hSw
        try dsimp only at hSw
        go_simp
        try with_reducible rfl
      try simp only [List.getElem_toArray, List.getElem_cons_zero, List.getElem_cons_succ, Act.put, List.setIfInBounds_toArray, List.set_cons_zero, List.set_cons_succ]
      refine late.done (by kernel_rfl) ?_ _
      refine NoPanic.normal ?_
      have HO6 := Lib.hid hot.out
      clear hHeld hot HFR HOP HFA HFN HFF HFF2 HFG hfe hbe
      rename World => v6
      by_cases hc0 : ec = 0
      · subst hc0
        obtain ⟨rfl, gc, lc, rfl, hnc, hlc, hrc⟩ := HY3.out rfl
        obtain ⟨rfl, gd, ld, rfl, hnd, hld, hrd⟩ := HY4.out rfl
        have HNC := Lib.hid hnc
        have HND := Lib.hid hnd
        have hmm := @run_makeMap Try.prog
        obtain ⟨wB, hwB⟩ : ∃ x, x = v6.alloc (.map #[] 0) := ⟨_, rfl⟩
        obtain ⟨mb, hmb⟩ : ∃ x, x = v6.heap.size := ⟨_, rfl⟩
        have HOB : Hid (Only (fun _ => False) v6 wB) := Lib.hid (by rw [hwB]; exact (Only.refl _ _).alloc _)
        have HMB := Lib.hid hmb
        have h56 := HO6.out
        have HBX : Hid (∀ w', Only (fun q => q = mb) wB w' → w'.cell? ⟨p1, 0, none⟩ = some (.int .i64 2) ∧ w'.cell? ⟨p1, 1, none⟩ = some (.slice (some ⟨ga, 0, none⟩) n1 c1a) ∧ w'.cell? ⟨p3, 0, none⟩ = some (.int .i64 4) ∧ w'.cell? ⟨p3, 1, none⟩ = some (.slice (some ⟨gc, 0, none⟩) n3 c3a) ∧ w'.cell? ⟨p4, 0, none⟩ = some (.int .i64 6) ∧ w'.cell? ⟨p4, 1, none⟩ = some (.slice (some ⟨gd, 0, none⟩) n4 c4a)) := Lib.hid (fun w' ho => ⟨keepC HOB.out HMB.out ho (HS5.out v6 h56).1, keepC HOB.out HMB.out ho (HS5.out v6 h56).2.1, keepC HOB.out HMB.out ho (HB3.out v6 (HO35.out.trans h56)).1, keepC HOB.out HMB.out ho (HB3.out v6 (HO35.out.trans h56)).2, keepC HOB.out HMB.out ho (HB4.out v6 (HO45.out.trans h56)).1, keepC HOB.out HMB.out ho (HB4.out v6 (HO45.out.trans h56)).2⟩)
        have HLA : Hid (∀ w', Only (fun q => q = mb) wB w' → ReadsL w' (some ⟨ga, 0, none⟩) n1 la) := Lib.hid (fun w' ho => keepL HOB.out HMB.out ho (by have := HL64.out; omega) (HRA.out v6 h56))
        have HLC : Hid (∀ w', Only (fun q => q = mb) wB w' → ReadsL w' (some ⟨gc, 0, none⟩) n3 lc) := Lib.hid (fun w' ho => keepL HOB.out HMB.out ho (by have := hlc.2.2.2; omega) (by rw [hnc]; exact hrc.only (HV3.out.trans (HO35.out.trans h56)) (fun _ _ f => f)))
        have HLD : Hid (∀ w', Only (fun q => q = mb) wB w' → ReadsL w' (some ⟨gd, 0, none⟩) n4 ld) := Lib.hid (fun w' ho => keepL HOB.out HMB.out ho (by have := hld.2.2.2; omega) (by rw [hnd]; exact hrd.only (HV4.out.trans (HO45.out.trans h56)) (fun _ _ f => f)))
        have HPI : Hid (∀ w', Only (fun q => q = mb) wB w' → ReadsI w' a n l) := Lib.hid (fun w' ho => keepI HOB.out HMB.out ho (HP.out v6 (HO5.out.trans h56)))
        have HZ : Hid (∀ x y z, atS x y z ((la ++ lc) ++ ld) = 0) := Lib.hid (fun x y z => all_nought' HHA.out.1 hlc.1 hld.1 x y z)
        have HL6A := HL64
        have HL6C : Hid (2 ≤ n3 ∧ n3 ≤ 64) := Lib.hid (by have := hlc.2.2.2; omega)
        have HL6D : Hid (2 ≤ n4 ∧ n4 ≤ 64) := Lib.hid (by have := hld.2.2.2; omega)
        have HAMA : Hid (∀ l ∈ la, amtB l.a = true) := Lib.hid (fun l hl => (HHA.out.2.2.1 l hl).2)
        have HAMC : Hid (∀ l ∈ lc, amtB l.a = true) := Lib.hid (fun l hl => (hlc.2.2.1 l hl).2)
        have HAMD : Hid (∀ l ∈ ld, amtB l.a = true) := Lib.hid (fun l hl => (hld.2.2.1 l hl).2)
        have HALA : Hid (∀ k, ∀ l ∈ ([] : List Lg) ++ la.take k, amtB l.a = true) := Lib.hid (fun k l hl => HAMA.out l (List.mem_of_mem_take (by simpa using hl)))
        have HALC : Hid (∀ k, ∀ l ∈ la ++ lc.take k, amtB l.a = true) := Lib.hid (fun k l hl => (List.mem_append.1 hl).elim (HAMA.out l) (fun h => HAMC.out l (List.mem_of_mem_take h)))
        have HALD : Hid (∀ k, ∀ l ∈ (la ++ lc) ++ ld.take k, amtB l.a = true) := Lib.hid (fun k l hl => (List.mem_append.1 hl).elim (fun h => (List.mem_append.1 h).elim (HAMA.out l) (HAMC.out l)) (fun h => HAMD.out l (List.mem_of_mem_take h)))
        have HLLA : Hid (([] : List Lg).length ≤ 130) := Lib.hid (by simp)
        have HLLC : Hid (la.length ≤ 130) := Lib.hid (by have := HNA.out; have := HL64.out; omega)
        have HLLD : Hid ((la ++ lc).length ≤ 130) := Lib.hid (by have := HNA.out; have := HL64.out; have := HL6C.out; have := HNC.out; rw [List.length_append]; omega)
        have HMS : Hid (MapI wB mb 0 (fun x y z => atS x y z [])) := Lib.hid (by rw [hwB, hmb]; exact MapI.made v6)
        have HOS : Hid (Only (fun q => q = mb) wB wB) := Lib.hid (Only.refl _ _)
        have HOW6 : Hid (Only (fun _ => False) w v6) := Lib.hid (HO5.out.trans h56)
        clear hnc hnd hlc hld hrc hrd h56
        go_upto_region 15 with fail
        simp only [← hwB, ← hmb]
        clear hwB hmb hmm
        go_wp2_with fail
        go_loopw [16] (fun i wr => ∃ k : Nat, k ≤ n1 ∧ i = .int .i64 k ∧ Hid (MapI wr mb (0 + k) (fun x y z => atS x y z (([] : List Lg) ++ la.take k))) ∧ Hid (Only (fun q => q = mb) wB wr)) (fun i _ => n1 - (intOf i).toNat)
        case atStart => exact ⟨0, by omega, rfl, Lib.hid (by simpa using HMS.out), HOS⟩
        case round =>
          obtain ⟨k, hk, rfl, HMP, HW⟩ := hrel
          rename World => wr
          have hbx := (HBX.out wr HW.out)
          by_cases h8 : k < n1
          · have hcs := (HLA.out wr HW.out).2.2.2.resolve_left (by omega)
            have hin := (HLA.out wr HW.out).2.2.1 _ (getL_mem la k (by rw [← HNA.out]; exact h8))
            have ham := HAMA.out _ (getL_mem la k (by rw [← HNA.out]; exact h8))
            have HSC0 : Hid (∀ w', Only (fun q => q = mb) wB w' → ReadsL w' (some ⟨ga, 0, none⟩) n1 la) := HLA
            obtain ⟨⟨xk, xn, xg, xa⟩, hle⟩ : ∃ x, la.getD k default = x := ⟨_, rfl⟩
            have HLE := Lib.hid hle
            rw [hle] at hin ham
            have HK1 : Hid (I64 xk) := Lib.hid hin.1
            have HK2 : Hid (I64 xn) := Lib.hid hin.2.1
            have HK3 : Hid (I64 xg) := Lib.hid hin.2.2.1
            have hab := amt_bound ham
            dsimp only at hab
            obtain ⟨x0, hx⟩ : ∃ x, atS xk xn xg (([] : List Lg) ++ la.take k) = x := ⟨_, rfl⟩
            have HX := Lib.hid hx
            have hbd := atS_bound xk xn xg (([] : List Lg) ++ la.take k) (HALA.out k)
            rw [hx] at hbd
            have hle2 : (([] : List Lg) ++ la.take k).length ≤ 400 := by have := HLLA.out; have := HL6A.out; have := HNA.out; rw [List.length_append, List.length_take]; omega
            have hwx : wrap64 (x0 + xa) = x0 + xa := small_add (by omega) (by omega) (by omega) (by omega)
            have HX0 : Hid (IntKind.i64.wrap (x0 + xa) = x0 + xa) := Lib.hid (by first | exact (i64_left _).trans hwx | (rw [IntKind.wrap_i64]; unfold wrap64 at hwx; omega) | (rw [IntKind.wrap_i64]; omega))
            have HX2 : Hid (I64 (x0 + xa)) := Lib.hid (by unfold I64; omega)
            have HSC : Hid (∀ w', Only (fun q => q = mb) wB w' → w'.cell? ⟨p1, 1, none⟩ = some (.slice (some ⟨ga, 0, none⟩) n1 c1a) ∧ w'.cell? ⟨ga, k * 4, none⟩ = some (.int .i64 xk) ∧ w'.cell? ⟨ga, k * 4 + 1, none⟩ = some (.int .i64 xn) ∧ w'.cell? ⟨ga, k * 4 + 2, none⟩ = some (.int .i64 xg) ∧ w'.cell? ⟨ga, k * 4 + 3, none⟩ = some (.int .i64 xa)) := Lib.hid (fun w' ho => by
              obtain ⟨bb, off, hbe, hc⟩ := (HSC0.out w' ho).2.2.2.resolve_left (by omega)
              injection hbe with hbe
              injection hbe with hb1 hb2
              subst hb1 hb2
              obtain ⟨q0, q1, q2, q3⟩ := hc k h8
              rw [HLE.out] at q0 q1 q2 q3
              simp only [Nat.zero_add] at q0 q1 q2 q3
              exact ⟨(HBX.out w' ho).2.1, q0, q1, q2, q3⟩)
            have hk0 : (0 : Int) ≤ (k : Int) := by omega
            have hkm : (k : Int) < (n1 : Int) := by omega
            have hn6a := HL6A.out.2
            have hn6c := HL6C.out.2
            have hn6d := HL6D.out.2
            clear hcs hin ham hle hab hx hbd hle2 HSC0
            go_upto_region 18 with fail
            clear hbx
            refine wp_region_noPanic ?_
            refine late.region (fun w' => w'.cell? ⟨p1, 1, none⟩ = some (.slice (some ⟨ga, 0, none⟩) n1 c1a) ∧ w'.cell? ⟨ga, k * 4, none⟩ = some (.int .i64 xk) ∧ w'.cell? ⟨ga, k * 4 + 1, none⟩ = some (.int .i64 xn) ∧ w'.cell? ⟨ga, k * 4 + 2, none⟩ = some (.int .i64 xg) ∧ w'.cell? ⟨ga, k * 4 + 3, none⟩ = some (.int .i64 xa)) (fun j => [17].contains j) (by kernel_rfl) (HSC.out _ (HW.out.drew)) (fun hHeld => ?_)
            obtain ⟨z0, hz0⟩ : ∃ x, x = wr.drew := ⟨_, rfl⟩
            rw [← hz0] at hHeld ⊢
            have hot : Hid (Only (fun q => q = mb) wB z0) := Lib.hid (by rw [hz0]; exact HW.out.drew)
            have hx0 := HX0.out
            have HEN := Lib.hid ((HMP.out.same (w' := z0) (by rw [hz0]; rfl)).entry HK1.out HK2.out HK3.out (by omega))
            rw [HX.out] at HEN
            have HLK1 := Lib.hid ((HMP.out.same (w' := z0) (by rw [hz0]; rfl)).look HK1.out HK2.out HK3.out)
            rw [HX.out] at HLK1
            unfold accm.accV at HLK1 HEN
            clear hz0
            refine late.take (i := 0) [7, 14, 15, 16, 17] (v := ?_) rfl (by kernel_rfl) (by kernel_rfl) (by kernel_rfl) (by kernel_rfl) (fun _ _ _ h => h) (Or.inl ⟨by rfl, ?_⟩) (by assumption) ?_
            rotate_left 1
            · intro w' hSw
              try dsimp only at hSw
              go_simp
              try with_reducible rfl
            try simp only [List.getElem_toArray, List.getElem_cons_zero, Act.put, List.setIfInBounds_toArray, List.set_cons_zero, List.set_cons_succ]
            refine late.take (i := 1) [2, 4, 5, 6, 7, 14, 15, 16, 17] (v := ?_) rfl (by kernel_rfl) (by kernel_rfl) (by kernel_rfl) (by kernel_rfl) (fun _ _ _ h => h) (Or.inl ⟨by rfl, ?_⟩) (by assumption) ?_
            rotate_left 1
            · intro w' hSw
              try dsimp only at hSw
              go_simp
              try with_reducible rfl
            try simp only [List.getElem_toArray, List.getElem_cons_zero, List.getElem_cons_succ, Act.put, List.setIfInBounds_toArray, List.set_cons_zero, List.set_cons_succ]
            refine late.take (i := 2) [4, 5, 6, 7, 14, 15, 16, 17] (v := ?_) rfl (by kernel_rfl) (by kernel_rfl) (by kernel_rfl) (by kernel_rfl) (fun _ _ _ h => h) (Or.inl ⟨by rfl, ?_⟩) (by assumption) ?_
            rotate_left 1
            · intro w' hSw
              try dsimp only at hSw
              go_simp
              try with_reducible rfl
            try simp only [List.getElem_toArray, List.getElem_cons_zero, List.getElem_cons_succ, Act.put, List.setIfInBounds_toArray, List.set_cons_zero, List.set_cons_succ]
            refine late.take (i := 3) [4, 5, 6, 7, 14, 15, 16, 17] (v := ?_) rfl (by kernel_rfl) (by kernel_rfl) (by kernel_rfl) (by kernel_rfl) (fun _ _ _ h => h) (Or.inl ⟨by rfl, ?_⟩) (by assumption) ?_
            rotate_left 1
            · intro w' hSw
              try dsimp only at hSw
              go_simp
              try with_reducible rfl
            try simp only [List.getElem_toArray, List.getElem_cons_zero, List.getElem_cons_succ, Act.put, List.setIfInBounds_toArray, List.set_cons_zero, List.set_cons_succ]
            refine late.take (i := 4) [5, 6, 7, 14, 15, 16, 17] (v := ?_) rfl (by kernel_rfl) (by kernel_rfl) (by kernel_rfl) (by kernel_rfl) (fun _ _ _ h => h) (Or.inl ⟨by rfl, ?_⟩) (by assumption) ?_
            rotate_left 1
            · intro w' hSw
              try dsimp only at hSw
              go_simp
              try with_reducible rfl
            try simp only [List.getElem_toArray, List.getElem_cons_zero, List.getElem_cons_succ, Act.put, List.setIfInBounds_toArray, List.set_cons_zero, List.set_cons_succ]
            refine late.take (i := 5) [6, 7, 14, 15, 16, 17] (v := ?_) rfl (by kernel_rfl) (by kernel_rfl) (by kernel_rfl) (by kernel_rfl) (fun _ _ _ h => h) (Or.inl ⟨by rfl, ?_⟩) (by assumption) ?_
            rotate_left 1
            · intro w' hSw
              try dsimp only at hSw
              go_simp
              try with_reducible rfl
            try simp only [List.getElem_toArray, List.getElem_cons_zero, List.getElem_cons_succ, Act.put, List.setIfInBounds_toArray, List.set_cons_zero, List.set_cons_succ]
            refine late.take (i := 6) [7, 14, 15, 16, 17] (v := ?_) rfl (by kernel_rfl) (by kernel_rfl) (by kernel_rfl) (by kernel_rfl) (fun _ _ _ h => h) (Or.inl ⟨by rfl, ?_⟩) (by assumption) ?_
            rotate_left 1
            · intro w' hSw
              try dsimp only at hSw
              go_simp
              try with_reducible rfl
            try simp only [List.getElem_toArray, List.getElem_cons_zero, List.getElem_cons_succ, Act.put, List.setIfInBounds_toArray, List.set_cons_zero, List.set_cons_succ]
            refine late.take (i := 8) [9, 11, 12, 13, 14, 15, 16, 17] (v := ?_) rfl (by kernel_rfl) (by kernel_rfl) (by kernel_rfl) (by kernel_rfl) (fun _ _ _ h => h) (Or.inl ⟨by rfl, ?_⟩) (by assumption) ?_
            rotate_left 1
            · intro w' hSw
              try dsimp only at hSw
              go_simp
              try with_reducible rfl
            try simp only [List.getElem_toArray, List.getElem_cons_zero, List.getElem_cons_succ, Act.put, List.setIfInBounds_toArray, List.set_cons_zero, List.set_cons_succ]
            refine late.take (i := 9) [11, 12, 13, 14, 15, 16, 17] (v := ?_) rfl (by kernel_rfl) (by kernel_rfl) (by kernel_rfl) (by kernel_rfl) (fun _ _ _ h => h) (Or.inl ⟨by rfl, ?_⟩) (by assumption) ?_
            rotate_left 1
            · intro w' hSw
              try dsimp only at hSw
              go_simp
              try with_reducible rfl
            try simp only [List.getElem_toArray, List.getElem_cons_zero, List.getElem_cons_succ, Act.put, List.setIfInBounds_toArray, List.set_cons_zero, List.set_cons_succ]
            refine late.take (i := 10) [11, 12, 13, 14, 15, 16, 17] (v := ?_) rfl (by kernel_rfl) (by kernel_rfl) (by kernel_rfl) (by kernel_rfl) (fun _ _ _ h => h) (Or.inl ⟨by rfl, ?_⟩) (by assumption) ?_
            rotate_left 1
            · intro w' hSw
              try dsimp only at hSw
              go_simp
              try with_reducible rfl
            try simp only [List.getElem_toArray, List.getElem_cons_zero, List.getElem_cons_succ, Act.put, List.setIfInBounds_toArray, List.set_cons_zero, List.set_cons_succ]
            refine late.take (i := 11) [12, 13, 14, 15, 16, 17] (v := ?_) rfl (by kernel_rfl) (by kernel_rfl) (by kernel_rfl) (by kernel_rfl) (fun _ _ _ h => h) (Or.inl ⟨by rfl, ?_⟩) (by assumption) ?_
            rotate_left 1
            · intro w' hSw
              try dsimp only at hSw
              go_simp
              try with_reducible rfl
            try simp only [List.getElem_toArray, List.getElem_cons_zero, List.getElem_cons_succ, Act.put, List.setIfInBounds_toArray, List.set_cons_zero, List.set_cons_succ]
            refine late.take (i := 12) [13, 14, 15, 16, 17] (v := ?_) rfl (by kernel_rfl) (by kernel_rfl) (by kernel_rfl) (by kernel_rfl) (fun _ _ _ h => h) (Or.inl ⟨by rfl, ?_⟩) (by assumption) ?_
            rotate_left 1
            · intro w' hSw
              try dsimp only at hSw
              go_simp
              try with_reducible rfl
            try simp only [List.getElem_toArray, List.getElem_cons_zero, List.getElem_cons_succ, Act.put, List.setIfInBounds_toArray, List.set_cons_zero, List.set_cons_succ]
            refine late.take (i := 13) [14, 15, 16, 17] (v := ?_) rfl (by kernel_rfl) (by kernel_rfl) (by kernel_rfl) (by kernel_rfl) (fun _ _ _ h => h) (Or.inl ⟨by rfl, ?_⟩) (by assumption) ?_
            rotate_left 1
            · intro w' hSw
              try dsimp only at hSw
              go_simp
              try with_reducible rfl
            try simp only [List.getElem_toArray, List.getElem_cons_zero, List.getElem_cons_succ, Act.put, List.setIfInBounds_toArray, List.set_cons_zero, List.set_cons_succ]
            refine late.ready (rs := [7, 15]) (by kernel_rfl) (by simp) ?_
            refine late.Each.cons rfl (fun K hK => ?_) (late.Each.cons rfl (fun K hK => ?_) late.Each.nil)
            · have hlk := HLK1.out
              try simp only [List.getElem_toArray, List.getElem_cons_zero, List.getElem_cons_succ]
              go_simp
              refine hK.out _ _ (fun _ => HSC.out _ hot.out) (fun hHeld1 => ?_)
              replace hHeld1 := hHeld1 rfl
              clear hK K
              clear hlk
              try simp only [List.getElem_toArray, List.getElem_cons_zero, List.getElem_cons_succ, Act.put, List.setIfInBounds_toArray, List.set_cons_zero, List.set_cons_succ]
              refine late.take (i := 14) [17] (v := ?_) rfl (by kernel_rfl) (by kernel_rfl) (by kernel_rfl) (by kernel_rfl) (fun _ _ _ h => h) (Or.inl ⟨by rfl, ?_⟩) (by assumption) ?_
              rotate_left 1
              · intro w' hSw
                try dsimp only at hSw
                go_simp
                try with_reducible rfl
              try simp only [List.getElem_toArray, List.getElem_cons_zero, List.getElem_cons_succ, Act.put, List.setIfInBounds_toArray, List.set_cons_zero, List.set_cons_succ]
              refine late.ready (rs := [15]) (by kernel_rfl) (by simp) ?_
              refine late.Each.cons rfl (fun K hK => ?_) late.Each.nil
              obtain ⟨m0, st, y1, hme, ho, -, hl2, hst⟩ := HEN.out
              have HLK2 := Lib.hid hl2
              have HST := Lib.hid hst
              clear hl2 hst
              try simp only [List.getElem_toArray, List.getElem_cons_zero, List.getElem_cons_succ]
              go_simp
              clear hme
              replace hot := Lib.hid (hot.out.trans ho)
              clear ho
              refine hK.out _ _ (fun _ => HSC.out _ hot.out) (fun hHeld2 => ?_)
              replace hHeld2 := hHeld2 rfl
              clear hK K
              try simp only [List.getElem_toArray, List.getElem_cons_zero, List.getElem_cons_succ, Act.put, List.setIfInBounds_toArray, List.set_cons_zero, List.set_cons_succ]
              refine late.take (i := 16) [17] (v := ?_) rfl (by kernel_rfl) (by kernel_rfl) (by kernel_rfl) (by kernel_rfl) (fun _ _ _ h => h) (Or.inl ⟨by rfl, ?_⟩) (by assumption) ?_
              rotate_left 1
              · intro w' hSw
                try dsimp only at hSw
                go_simp
                try with_reducible rfl
              try simp only [List.getElem_toArray, List.getElem_cons_zero, List.getElem_cons_succ, Act.put, List.setIfInBounds_toArray, List.set_cons_zero, List.set_cons_succ]
              refine late.ready (rs := [17]) (by kernel_rfl) (by simp) ?_
              refine late.Each.cons rfl (fun K hK => ?_) late.Each.nil
              obtain ⟨y2, hes, ho, hmi⟩ := HST.out y1 (x0 + xa) HX2.out rfl
              have HMI := Lib.hid hmi
              clear hmi hHeld
              try simp only [List.getElem_toArray, List.getElem_cons_zero, List.getElem_cons_succ]
              go_simp
              clear hes
              replace hot := Lib.hid (hot.out.trans ho)
              clear ho
              refine hK.out _ _ (fun h => by cases h) (fun _ => ?_)
              clear hK K
              try simp only [List.getElem_toArray, List.getElem_cons_zero, List.getElem_cons_succ, Act.put, List.setIfInBounds_toArray, List.set_cons_zero, List.set_cons_succ]
              refine late.done (by kernel_rfl) ?_ _
              refine NoPanic.normal ?_
              have HMN : Hid (MapI y2 mb (0 + (k + 1)) (fun x y z => atS x y z (([] : List Lg) ++ la.take (k + 1)))) := Lib.hid (by
                have := HMI.out
                rw [← HX.out, upd_snoc ([] : List Lg) la k (by rw [← HNA.out]; exact h8) xk xn xg xa HLE.out] at this
                exact this)
              have HON := Lib.hid hot.out
              clear hot HMI HST HX HX0 HX2 HK1 HK2 HK3 HLE HSC
              go_wp2_with fail
              go_roundw
              case rel => exact ⟨k + 1, by omega, by go_num, HMN, HON⟩
              case measure => (simp [intOf]; omega)

            · obtain ⟨m0, st, y1, hme, ho, -, hl2, hst⟩ := HEN.out
              have HLK2 := Lib.hid hl2
              have HST := Lib.hid hst
              clear hl2 hst
              try simp only [List.getElem_toArray, List.getElem_cons_zero, List.getElem_cons_succ]
              go_simp
              clear hme
              replace hot := Lib.hid (hot.out.trans ho)
              clear ho
              refine hK.out _ _ (fun _ => HSC.out _ hot.out) (fun hHeld4 => ?_)
              replace hHeld4 := hHeld4 rfl
              clear hK K
              try simp only [List.getElem_toArray, List.getElem_cons_zero, List.getElem_cons_succ, Act.put, List.setIfInBounds_toArray, List.set_cons_zero, List.set_cons_succ]
              refine late.take (i := 16) [17] (v := ?_) rfl (by kernel_rfl) (by kernel_rfl) (by kernel_rfl) (by kernel_rfl) (fun _ _ _ h => h) (Or.inl ⟨by rfl, ?_⟩) (by assumption) ?_
              rotate_left 1
              · intro w' hSw
                try dsimp only at hSw
                go_simp
                try with_reducible rfl
              try simp only [List.getElem_toArray, List.getElem_cons_zero, List.getElem_cons_succ, Act.put, List.setIfInBounds_toArray, List.set_cons_zero, List.set_cons_succ]
              refine late.ready (rs := [7]) (by kernel_rfl) (by simp) ?_
              refine late.Each.cons rfl (fun K hK => ?_) late.Each.nil
              have hlk := HLK2.out
              try simp only [List.getElem_toArray, List.getElem_cons_zero, List.getElem_cons_succ]
              go_simp
              refine hK.out _ _ (fun _ => HSC.out _ hot.out) (fun hHeld5 => ?_)
              replace hHeld5 := hHeld5 rfl
              clear hK K
              clear hlk
              try simp only [List.getElem_toArray, List.getElem_cons_zero, List.getElem_cons_succ, Act.put, List.setIfInBounds_toArray, List.set_cons_zero, List.set_cons_succ]
              refine late.take (i := 14) [17] (v := ?_) rfl (by kernel_rfl) (by kernel_rfl) (by kernel_rfl) (by kernel_rfl) (fun _ _ _ h => h) (Or.inl ⟨by rfl, ?_⟩) (by assumption) ?_
              rotate_left 1
              · intro w' hSw
                try dsimp only at hSw
                go_simp
                try with_reducible rfl
              try simp only [List.getElem_toArray, List.getElem_cons_zero, List.getElem_cons_succ, Act.put, List.setIfInBounds_toArray, List.set_cons_zero, List.set_cons_succ]
              refine late.ready (rs := [17]) (by kernel_rfl) (by simp) ?_
              refine late.Each.cons rfl (fun K hK => ?_) late.Each.nil
              obtain ⟨y2, hes, ho, hmi⟩ := HST.out y1 (x0 + xa) HX2.out rfl
              have HMI := Lib.hid hmi
              clear hmi hHeld
              try simp only [List.getElem_toArray, List.getElem_cons_zero, List.getElem_cons_succ]
              go_simp
              clear hes
              replace hot := Lib.hid (hot.out.trans ho)
              clear ho
              refine hK.out _ _ (fun h => by cases h) (fun _ => ?_)
              clear hK K
              try simp only [List.getElem_toArray, List.getElem_cons_zero, List.getElem_cons_succ, Act.put, List.setIfInBounds_toArray, List.set_cons_zero, List.set_cons_succ]
              refine late.done (by kernel_rfl) ?_ _
              refine NoPanic.normal ?_
              have HMN : Hid (MapI y2 mb (0 + (k + 1)) (fun x y z => atS x y z (([] : List Lg) ++ la.take (k + 1)))) := Lib.hid (by
                have := HMI.out
                rw [← HX.out, upd_snoc ([] : List Lg) la k (by rw [← HNA.out]; exact h8) xk xn xg xa HLE.out] at this
                exact this)
              have HON := Lib.hid hot.out
              clear hot HMI HST HX HX0 HX2 HK1 HK2 HK3 HLE HSC
              go_wp2_with fail
              go_roundw
              case rel => exact ⟨k + 1, by omega, by go_num, HMN, HON⟩
              case measure => (simp [intOf]; omega)
          · have hge : ¬ (k : Int) < (n1 : Int) := by omega
            obtain rfl : n1 = k := by omega
            have HMS : Hid (MapI wr mb n1 (fun x y z => atS x y z la)) := Lib.hid (by
              have h := HMP.out
              rw [List.take_of_length_le (show la.length ≤ n1 by have := HNA.out; omega)] at h
              simpa using h)
            have HOS := HW
            obtain ⟨wN, hwN⟩ : ∃ x, x = wr := ⟨_, rfl⟩
            rw [← hwN] at HMS HOS hbx ⊢
            clear HMP HW hwN
            go_wp2_with fail
            clear hbx hge
            go_loopw [17] (fun i wr => ∃ k : Nat, k ≤ n3 ∧ i = .int .i64 k ∧ Hid (MapI wr mb (n1 + k) (fun x y z => atS x y z (la ++ lc.take k))) ∧ Hid (Only (fun q => q = mb) wB wr)) (fun i _ => n3 - (intOf i).toNat)
            case atStart => exact ⟨0, by omega, rfl, Lib.hid (by simpa using HMS.out), HOS⟩
            case round =>
              obtain ⟨k, hk, rfl, HMP, HW⟩ := hrel
              rename World => wr
              have hbx := (HBX.out wr HW.out)
              by_cases h8 : k < n3
              · have hcs := (HLC.out wr HW.out).2.2.2.resolve_left (by omega)
                have hin := (HLC.out wr HW.out).2.2.1 _ (getL_mem lc k (by rw [← HNC.out]; exact h8))
                have ham := HAMC.out _ (getL_mem lc k (by rw [← HNC.out]; exact h8))
                have HSC0 : Hid (∀ w', Only (fun q => q = mb) wB w' → ReadsL w' (some ⟨gc, 0, none⟩) n3 lc) := HLC
                obtain ⟨⟨xk, xn, xg, xa⟩, hle⟩ : ∃ x, lc.getD k default = x := ⟨_, rfl⟩
                have HLE := Lib.hid hle
                rw [hle] at hin ham
                have HK1 : Hid (I64 xk) := Lib.hid hin.1
                have HK2 : Hid (I64 xn) := Lib.hid hin.2.1
                have HK3 : Hid (I64 xg) := Lib.hid hin.2.2.1
                have hab := amt_bound ham
                dsimp only at hab
                obtain ⟨x0, hx⟩ : ∃ x, atS xk xn xg (la ++ lc.take k) = x := ⟨_, rfl⟩
                have HX := Lib.hid hx
                have hbd := atS_bound xk xn xg (la ++ lc.take k) (HALC.out k)
                rw [hx] at hbd
                have hle2 : (la ++ lc.take k).length ≤ 400 := by have := HLLC.out; have := HL6C.out; have := HNC.out; rw [List.length_append, List.length_take]; omega
                have hwx : wrap64 (x0 + xa) = x0 + xa := small_add (by omega) (by omega) (by omega) (by omega)
                have HX0 : Hid (IntKind.i64.wrap (x0 + xa) = x0 + xa) := Lib.hid (by first | exact (i64_left _).trans hwx | (rw [IntKind.wrap_i64]; unfold wrap64 at hwx; omega) | (rw [IntKind.wrap_i64]; omega))
                have HX2 : Hid (I64 (x0 + xa)) := Lib.hid (by unfold I64; omega)
                have HSC : Hid (∀ w', Only (fun q => q = mb) wB w' → w'.cell? ⟨p3, 1, none⟩ = some (.slice (some ⟨gc, 0, none⟩) n3 c3a) ∧ w'.cell? ⟨gc, k * 4, none⟩ = some (.int .i64 xk) ∧ w'.cell? ⟨gc, k * 4 + 1, none⟩ = some (.int .i64 xn) ∧ w'.cell? ⟨gc, k * 4 + 2, none⟩ = some (.int .i64 xg) ∧ w'.cell? ⟨gc, k * 4 + 3, none⟩ = some (.int .i64 xa)) := Lib.hid (fun w' ho => by
                  obtain ⟨bb, off, hbe, hc⟩ := (HSC0.out w' ho).2.2.2.resolve_left (by omega)
                  injection hbe with hbe
                  injection hbe with hb1 hb2
                  subst hb1 hb2
                  obtain ⟨q0, q1, q2, q3⟩ := hc k h8
                  rw [HLE.out] at q0 q1 q2 q3
                  simp only [Nat.zero_add] at q0 q1 q2 q3
                  exact ⟨(HBX.out w' ho).2.2.2.1, q0, q1, q2, q3⟩)
                have hk0 : (0 : Int) ≤ (k : Int) := by omega
                have hkm : (k : Int) < (n3 : Int) := by omega
                have hn6a := HL6A.out.2
                have hn6c := HL6C.out.2
                have hn6d := HL6D.out.2
                clear hcs hin ham hle hab hx hbd hle2 HSC0
                go_upto_region 22 with fail
                clear hbx
                refine wp_region_noPanic ?_
                refine late.region (fun w' => w'.cell? ⟨p3, 1, none⟩ = some (.slice (some ⟨gc, 0, none⟩) n3 c3a) ∧ w'.cell? ⟨gc, k * 4, none⟩ = some (.int .i64 xk) ∧ w'.cell? ⟨gc, k * 4 + 1, none⟩ = some (.int .i64 xn) ∧ w'.cell? ⟨gc, k * 4 + 2, none⟩ = some (.int .i64 xg) ∧ w'.cell? ⟨gc, k * 4 + 3, none⟩ = some (.int .i64 xa)) (fun j => [17].contains j) (by kernel_rfl) (HSC.out _ (HW.out.drew)) (fun hHeld => ?_)
                obtain ⟨z0, hz0⟩ : ∃ x, x = wr.drew := ⟨_, rfl⟩
                rw [← hz0] at hHeld ⊢
                have hot : Hid (Only (fun q => q = mb) wB z0) := Lib.hid (by rw [hz0]; exact HW.out.drew)
                have hx0 := HX0.out
                have HEN := Lib.hid ((HMP.out.same (w' := z0) (by rw [hz0]; rfl)).entry HK1.out HK2.out HK3.out (by omega))
                rw [HX.out] at HEN
                have HLK1 := Lib.hid ((HMP.out.same (w' := z0) (by rw [hz0]; rfl)).look HK1.out HK2.out HK3.out)
                rw [HX.out] at HLK1
                unfold accm.accV at HLK1 HEN
                clear hz0
                refine late.take (i := 0) [7, 14, 15, 16, 17] (v := ?_) rfl (by kernel_rfl) (by kernel_rfl) (by kernel_rfl) (by kernel_rfl) (fun _ _ _ h => h) (Or.inl ⟨by rfl, ?_⟩) (by assumption) ?_
                rotate_left 1
                · intro w' hSw
                  try dsimp only at hSw
                  go_simp
                  try with_reducible rfl
                try simp only [List.getElem_toArray, List.getElem_cons_zero, Act.put, List.setIfInBounds_toArray, List.set_cons_zero, List.set_cons_succ]
                refine late.take (i := 1) [2, 4, 5, 6, 7, 14, 15, 16, 17] (v := ?_) rfl (by kernel_rfl) (by kernel_rfl) (by kernel_rfl) (by kernel_rfl) (fun _ _ _ h => h) (Or.inl ⟨by rfl, ?_⟩) (by assumption) ?_
                rotate_left 1
                · intro w' hSw
                  try dsimp only at hSw
                  go_simp
                  try with_reducible rfl
                try simp only [List.getElem_toArray, List.getElem_cons_zero, List.getElem_cons_succ, Act.put, List.setIfInBounds_toArray, List.set_cons_zero, List.set_cons_succ]
                refine late.take (i := 2) [4, 5, 6, 7, 14, 15, 16, 17] (v := ?_) rfl (by kernel_rfl) (by kernel_rfl) (by kernel_rfl) (by kernel_rfl) (fun _ _ _ h => h) (Or.inl ⟨by rfl, ?_⟩) (by assumption) ?_
                rotate_left 1
                · intro w' hSw
                  try dsimp only at hSw
                  go_simp
                  try with_reducible rfl
                try simp only [List.getElem_toArray, List.getElem_cons_zero, List.getElem_cons_succ, Act.put, List.setIfInBounds_toArray, List.set_cons_zero, List.set_cons_succ]
                refine late.take (i := 3) [4, 5, 6, 7, 14, 15, 16, 17] (v := ?_) rfl (by kernel_rfl) (by kernel_rfl) (by kernel_rfl) (by kernel_rfl) (fun _ _ _ h => h) (Or.inl ⟨by rfl, ?_⟩) (by assumption) ?_
                rotate_left 1
                · intro w' hSw
                  try dsimp only at hSw
                  go_simp
                  try with_reducible rfl
                try simp only [List.getElem_toArray, List.getElem_cons_zero, List.getElem_cons_succ, Act.put, List.setIfInBounds_toArray, List.set_cons_zero, List.set_cons_succ]
                refine late.take (i := 4) [5, 6, 7, 14, 15, 16, 17] (v := ?_) rfl (by kernel_rfl) (by kernel_rfl) (by kernel_rfl) (by kernel_rfl) (fun _ _ _ h => h) (Or.inl ⟨by rfl, ?_⟩) (by assumption) ?_
                rotate_left 1
                · intro w' hSw
                  try dsimp only at hSw
                  go_simp
                  try with_reducible rfl
                try simp only [List.getElem_toArray, List.getElem_cons_zero, List.getElem_cons_succ, Act.put, List.setIfInBounds_toArray, List.set_cons_zero, List.set_cons_succ]
                refine late.take (i := 5) [6, 7, 14, 15, 16, 17] (v := ?_) rfl (by kernel_rfl) (by kernel_rfl) (by kernel_rfl) (by kernel_rfl) (fun _ _ _ h => h) (Or.inl ⟨by rfl, ?_⟩) (by assumption) ?_
                rotate_left 1
                · intro w' hSw
                  try dsimp only at hSw
                  go_simp
                  try with_reducible rfl
                try simp only [List.getElem_toArray, List.getElem_cons_zero, List.getElem_cons_succ, Act.put, List.setIfInBounds_toArray, List.set_cons_zero, List.set_cons_succ]
                refine late.take (i := 6) [7, 14, 15, 16, 17] (v := ?_) rfl (by kernel_rfl) (by kernel_rfl) (by kernel_rfl) (by kernel_rfl) (fun _ _ _ h => h) (Or.inl ⟨by rfl, ?_⟩) (by assumption) ?_
                rotate_left 1
                · intro w' hSw
                  try dsimp only at hSw
                  go_simp
                  try with_reducible rfl
                try simp only [List.getElem_toArray, List.getElem_cons_zero, List.getElem_cons_succ, Act.put, List.setIfInBounds_toArray, List.set_cons_zero, List.set_cons_succ]
                refine late.take (i := 8) [9, 11, 12, 13, 14, 15, 16, 17] (v := ?_) rfl (by kernel_rfl) (by kernel_rfl) (by kernel_rfl) (by kernel_rfl) (fun _ _ _ h => h) (Or.inl ⟨by rfl, ?_⟩) (by assumption) ?_
                rotate_left 1
                · intro w' hSw
                  try dsimp only at hSw
                  go_simp
                  try with_reducible rfl
                try simp only [List.getElem_toArray, List.getElem_cons_zero, List.getElem_cons_succ, Act.put, List.setIfInBounds_toArray, List.set_cons_zero, List.set_cons_succ]
                refine late.take (i := 9) [11, 12, 13, 14, 15, 16, 17] (v := ?_) rfl (by kernel_rfl) (by kernel_rfl) (by kernel_rfl) (by kernel_rfl) (fun _ _ _ h => h) (Or.inl ⟨by rfl, ?_⟩) (by assumption) ?_
                rotate_left 1
                · intro w' hSw
                  try dsimp only at hSw
                  go_simp
                  try with_reducible rfl
                try simp only [List.getElem_toArray, List.getElem_cons_zero, List.getElem_cons_succ, Act.put, List.setIfInBounds_toArray, List.set_cons_zero, List.set_cons_succ]
                refine late.take (i := 10) [11, 12, 13, 14, 15, 16, 17] (v := ?_) rfl (by kernel_rfl) (by kernel_rfl) (by kernel_rfl) (by kernel_rfl) (fun _ _ _ h => h) (Or.inl ⟨by rfl, ?_⟩) (by assumption) ?_
                rotate_left 1
                · intro w' hSw
                  try dsimp only at hSw
                  go_simp
                  try with_reducible rfl
                try simp only [List.getElem_toArray, List.getElem_cons_zero, List.getElem_cons_succ, Act.put, List.setIfInBounds_toArray, List.set_cons_zero, List.set_cons_succ]
                refine late.take (i := 11) [12, 13, 14, 15, 16, 17] (v := ?_) rfl (by kernel_rfl) (by kernel_rfl) (by kernel_rfl) (by kernel_rfl) (fun _ _ _ h => h) (Or.inl ⟨by rfl, ?_⟩) (by assumption) ?_
                rotate_left 1
                · intro w' hSw
                  try dsimp only at hSw
                  go_simp
                  try with_reducible rfl
                try simp only [List.getElem_toArray, List.getElem_cons_zero, List.getElem_cons_succ, Act.put, List.setIfInBounds_toArray, List.set_cons_zero, List.set_cons_succ]
                refine late.take (i := 12) [13, 14, 15, 16, 17] (v := ?_) rfl (by kernel_rfl) (by kernel_rfl) (by kernel_rfl) (by kernel_rfl) (fun _ _ _ h => h) (Or.inl ⟨by rfl, ?_⟩) (by assumption) ?_
                rotate_left 1
                · intro w' hSw
                  try dsimp only at hSw
                  go_simp
                  try with_reducible rfl
                try simp only [List.getElem_toArray, List.getElem_cons_zero, List.getElem_cons_succ, Act.put, List.setIfInBounds_toArray, List.set_cons_zero, List.set_cons_succ]
                refine late.take (i := 13) [14, 15, 16, 17] (v := ?_) rfl (by kernel_rfl) (by kernel_rfl) (by kernel_rfl) (by kernel_rfl) (fun _ _ _ h => h) (Or.inl ⟨by rfl, ?_⟩) (by assumption) ?_
                rotate_left 1
                · intro w' hSw
                  try dsimp only at hSw
                  go_simp
                  try with_reducible rfl
                try simp only [List.getElem_toArray, List.getElem_cons_zero, List.getElem_cons_succ, Act.put, List.setIfInBounds_toArray, List.set_cons_zero, List.set_cons_succ]
                refine late.ready (rs := [7, 15]) (by kernel_rfl) (by simp) ?_
                refine late.Each.cons rfl (fun K hK => ?_) (late.Each.cons rfl (fun K hK => ?_) late.Each.nil)
                · have hlk := HLK1.out
                  try simp only [List.getElem_toArray, List.getElem_cons_zero, List.getElem_cons_succ]
                  go_simp
                  refine hK.out _ _ (fun _ => HSC.out _ hot.out) (fun hHeld1 => ?_)
                  replace hHeld1 := hHeld1 rfl
                  clear hK K
                  clear hlk
                  try simp only [List.getElem_toArray, List.getElem_cons_zero, List.getElem_cons_succ, Act.put, List.setIfInBounds_toArray, List.set_cons_zero, List.set_cons_succ]
                  refine late.take (i := 14) [17] (v := ?_) rfl (by kernel_rfl) (by kernel_rfl) (by kernel_rfl) (by kernel_rfl) (fun _ _ _ h => h) (Or.inl ⟨by rfl, ?_⟩) (by assumption) ?_
                  rotate_left 1
                  · intro w' hSw
                    try dsimp only at hSw
                    go_simp
                    try with_reducible rfl
                  try simp only [List.getElem_toArray, List.getElem_cons_zero, List.getElem_cons_succ, Act.put, List.setIfInBounds_toArray, List.set_cons_zero, List.set_cons_succ]
                  refine late.ready (rs := [15]) (by kernel_rfl) (by simp) ?_
                  refine late.Each.cons rfl (fun K hK => ?_) late.Each.nil
                  obtain ⟨m0, st, y1, hme, ho, -, hl2, hst⟩ := HEN.out
                  have HLK2 := Lib.hid hl2
                  have HST := Lib.hid hst
                  clear hl2 hst
                  try simp only [List.getElem_toArray, List.getElem_cons_zero, List.getElem_cons_succ]
                  go_simp
                  clear hme
                  replace hot := Lib.hid (hot.out.trans ho)
                  clear ho
                  refine hK.out _ _ (fun _ => HSC.out _ hot.out) (fun hHeld2 => ?_)
                  replace hHeld2 := hHeld2 rfl
                  clear hK K
                  try simp only [List.getElem_toArray, List.getElem_cons_zero, List.getElem_cons_succ, Act.put, List.setIfInBounds_toArray, List.set_cons_zero, List.set_cons_succ]
                  refine late.take (i := 16) [17] (v := ?_) rfl (by kernel_rfl) (by kernel_rfl) (by kernel_rfl) (by kernel_rfl) (fun _ _ _ h => h) (Or.inl ⟨by rfl, ?_⟩) (by assumption) ?_
                  rotate_left 1
                  · intro w' hSw
                    try dsimp only at hSw
                    go_simp
                    try with_reducible rfl
                  try simp only [List.getElem_toArray, List.getElem_cons_zero, List.getElem_cons_succ, Act.put, List.setIfInBounds_toArray, List.set_cons_zero, List.set_cons_succ]
                  refine late.ready (rs := [17]) (by kernel_rfl) (by simp) ?_
                  refine late.Each.cons rfl (fun K hK => ?_) late.Each.nil
                  obtain ⟨y2, hes, ho, hmi⟩ := HST.out y1 (x0 + xa) HX2.out rfl
                  have HMI := Lib.hid hmi
                  clear hmi hHeld
                  try simp only [List.getElem_toArray, List.getElem_cons_zero, List.getElem_cons_succ]
                  go_simp
                  clear hes
                  replace hot := Lib.hid (hot.out.trans ho)
                  clear ho
                  refine hK.out _ _ (fun h => by cases h) (fun _ => ?_)
                  clear hK K
                  try simp only [List.getElem_toArray, List.getElem_cons_zero, List.getElem_cons_succ, Act.put, List.setIfInBounds_toArray, List.set_cons_zero, List.set_cons_succ]
                  refine late.done (by kernel_rfl) ?_ _
                  refine NoPanic.normal ?_
                  have HMN : Hid (MapI y2 mb (n1 + (k + 1)) (fun x y z => atS x y z (la ++ lc.take (k + 1)))) := Lib.hid (by
                    have := HMI.out
                    rw [← HX.out, upd_snoc la lc k (by rw [← HNC.out]; exact h8) xk xn xg xa HLE.out] at this
                    exact this)
                  have HON := Lib.hid hot.out
                  clear hot HMI HST HX HX0 HX2 HK1 HK2 HK3 HLE HSC
                  go_wp2_with fail
                  go_roundw
                  case rel => exact ⟨k + 1, by omega, by go_num, HMN, HON⟩
                  case measure => (simp [intOf]; omega)

                · obtain ⟨m0, st, y1, hme, ho, -, hl2, hst⟩ := HEN.out
                  have HLK2 := Lib.hid hl2
                  have HST := Lib.hid hst
                  clear hl2 hst
                  try simp only [List.getElem_toArray, List.getElem_cons_zero, List.getElem_cons_succ]
                  go_simp
                  clear hme
                  replace hot := Lib.hid (hot.out.trans ho)
                  clear ho
                  refine hK.out _ _ (fun _ => HSC.out _ hot.out) (fun hHeld4 => ?_)
                  replace hHeld4 := hHeld4 rfl
                  clear hK K
                  try simp only [List.getElem_toArray, List.getElem_cons_zero, List.getElem_cons_succ, Act.put, List.setIfInBounds_toArray, List.set_cons_zero, List.set_cons_succ]
                  refine late.take (i := 16) [17] (v := ?_) rfl (by kernel_rfl) (by kernel_rfl) (by kernel_rfl) (by kernel_rfl) (fun _ _ _ h => h) (Or.inl ⟨by rfl, ?_⟩) (by assumption) ?_
                  rotate_left 1
                  · intro w' hSw
                    try dsimp only at hSw
                    go_simp
                    try with_reducible rfl
                  try simp only [List.getElem_toArray, List.getElem_cons_zero, List.getElem_cons_succ, Act.put, List.setIfInBounds_toArray, List.set_cons_zero, List.set_cons_succ]
                  refine late.ready (rs := [7]) (by kernel_rfl) (by simp) ?_
                  refine late.Each.cons rfl (fun K hK => ?_) late.Each.nil
                  have hlk := HLK2.out
                  try simp only [List.getElem_toArray, List.getElem_cons_zero, List.getElem_cons_succ]
                  go_simp
                  refine hK.out _ _ (fun _ => HSC.out _ hot.out) (fun hHeld5 => ?_)
                  replace hHeld5 := hHeld5 rfl
                  clear hK K
                  clear hlk
                  try simp only [List.getElem_toArray, List.getElem_cons_zero, List.getElem_cons_succ, Act.put, List.setIfInBounds_toArray, List.set_cons_zero, List.set_cons_succ]
                  refine late.take (i := 14) [17] (v := ?_) rfl (by kernel_rfl) (by kernel_rfl) (by kernel_rfl) (by kernel_rfl) (fun _ _ _ h => h) (Or.inl ⟨by rfl, ?_⟩) (by assumption) ?_
                  rotate_left 1
                  · intro w' hSw
                    try dsimp only at hSw
                    go_simp
                    try with_reducible rfl
                  try simp only [List.getElem_toArray, List.getElem_cons_zero, List.getElem_cons_succ, Act.put, List.setIfInBounds_toArray, List.set_cons_zero, List.set_cons_succ]
                  refine late.ready (rs := [17]) (by kernel_rfl) (by simp) ?_
                  refine late.Each.cons rfl (fun K hK => ?_) late.Each.nil
                  obtain ⟨y2, hes, ho, hmi⟩ := HST.out y1 (x0 + xa) HX2.out rfl
                  have HMI := Lib.hid hmi
                  clear hmi hHeld
                  try simp only [List.getElem_toArray, List.getElem_cons_zero, List.getElem_cons_succ]
                  go_simp
                  clear hes
                  replace hot := Lib.hid (hot.out.trans ho)
                  clear ho
                  refine hK.out _ _ (fun h => by cases h) (fun _ => ?_)
                  clear hK K
                  try simp only [List.getElem_toArray, List.getElem_cons_zero, List.getElem_cons_succ, Act.put, List.setIfInBounds_toArray, List.set_cons_zero, List.set_cons_succ]
                  refine late.done (by kernel_rfl) ?_ _
                  refine NoPanic.normal ?_
                  have HMN : Hid (MapI y2 mb (n1 + (k + 1)) (fun x y z => atS x y z (la ++ lc.take (k + 1)))) := Lib.hid (by
                    have := HMI.out
                    rw [← HX.out, upd_snoc la lc k (by rw [← HNC.out]; exact h8) xk xn xg xa HLE.out] at this
                    exact this)
                  have HON := Lib.hid hot.out
                  clear hot HMI HST HX HX0 HX2 HK1 HK2 HK3 HLE HSC
                  go_wp2_with fail
                  go_roundw
                  case rel => exact ⟨k + 1, by omega, by go_num, HMN, HON⟩
                  case measure => (simp [intOf]; omega)
              · have hge : ¬ (k : Int) < (n3 : Int) := by omega
                obtain rfl : n3 = k := by omega
                have HMS : Hid (MapI wr mb (n1 + n3) (fun x y z => atS x y z (la ++ lc))) := Lib.hid (by
                  have h := HMP.out
                  rw [List.take_of_length_le (show lc.length ≤ n3 by have := HNC.out; omega)] at h
                  simpa using h)
                have HOS := HW
                obtain ⟨wN, hwN⟩ : ∃ x, x = wr := ⟨_, rfl⟩
                rw [← hwN] at HMS HOS hbx ⊢
                clear HMP HW hwN
                go_wp2_with fail
                clear hbx hge
                go_loopw [18] (fun i wr => ∃ k : Nat, k ≤ n4 ∧ i = .int .i64 k ∧ Hid (MapI wr mb ((n1 + n3) + k) (fun x y z => atS x y z ((la ++ lc) ++ ld.take k))) ∧ Hid (Only (fun q => q = mb) wB wr)) (fun i _ => n4 - (intOf i).toNat)
                case atStart => exact ⟨0, by omega, rfl, Lib.hid (by simpa using HMS.out), HOS⟩
                case round =>
                  obtain ⟨k, hk, rfl, HMP, HW⟩ := hrel
                  rename World => wr
                  have hbx := (HBX.out wr HW.out)
                  by_cases h8 : k < n4
                  · have hcs := (HLD.out wr HW.out).2.2.2.resolve_left (by omega)
                    have hin := (HLD.out wr HW.out).2.2.1 _ (getL_mem ld k (by rw [← HND.out]; exact h8))
                    have ham := HAMD.out _ (getL_mem ld k (by rw [← HND.out]; exact h8))
                    have HSC0 : Hid (∀ w', Only (fun q => q = mb) wB w' → ReadsL w' (some ⟨gd, 0, none⟩) n4 ld) := HLD
                    obtain ⟨⟨xk, xn, xg, xa⟩, hle⟩ : ∃ x, ld.getD k default = x := ⟨_, rfl⟩
                    have HLE := Lib.hid hle
                    rw [hle] at hin ham
                    have HK1 : Hid (I64 xk) := Lib.hid hin.1
                    have HK2 : Hid (I64 xn) := Lib.hid hin.2.1
                    have HK3 : Hid (I64 xg) := Lib.hid hin.2.2.1
                    have hab := amt_bound ham
                    dsimp only at hab
                    obtain ⟨x0, hx⟩ : ∃ x, atS xk xn xg ((la ++ lc) ++ ld.take k) = x := ⟨_, rfl⟩
                    have HX := Lib.hid hx
                    have hbd := atS_bound xk xn xg ((la ++ lc) ++ ld.take k) (HALD.out k)
                    rw [hx] at hbd
                    have hle2 : ((la ++ lc) ++ ld.take k).length ≤ 400 := by have := HLLD.out; have := HL6D.out; have := HND.out; rw [List.length_append, List.length_take]; omega
                    have hwx : wrap64 (x0 + xa) = x0 + xa := small_add (by omega) (by omega) (by omega) (by omega)
                    have HX0 : Hid (IntKind.i64.wrap (x0 + xa) = x0 + xa) := Lib.hid (by first | exact (i64_left _).trans hwx | (rw [IntKind.wrap_i64]; unfold wrap64 at hwx; omega) | (rw [IntKind.wrap_i64]; omega))
                    have HX2 : Hid (I64 (x0 + xa)) := Lib.hid (by unfold I64; omega)
                    have HSC : Hid (∀ w', Only (fun q => q = mb) wB w' → w'.cell? ⟨p4, 1, none⟩ = some (.slice (some ⟨gd, 0, none⟩) n4 c4a) ∧ w'.cell? ⟨gd, k * 4, none⟩ = some (.int .i64 xk) ∧ w'.cell? ⟨gd, k * 4 + 1, none⟩ = some (.int .i64 xn) ∧ w'.cell? ⟨gd, k * 4 + 2, none⟩ = some (.int .i64 xg) ∧ w'.cell? ⟨gd, k * 4 + 3, none⟩ = some (.int .i64 xa)) := Lib.hid (fun w' ho => by
                      obtain ⟨bb, off, hbe, hc⟩ := (HSC0.out w' ho).2.2.2.resolve_left (by omega)
                      injection hbe with hbe
                      injection hbe with hb1 hb2
                      subst hb1 hb2
                      obtain ⟨q0, q1, q2, q3⟩ := hc k h8
                      rw [HLE.out] at q0 q1 q2 q3
                      simp only [Nat.zero_add] at q0 q1 q2 q3
                      exact ⟨(HBX.out w' ho).2.2.2.2.2, q0, q1, q2, q3⟩)
                    have hk0 : (0 : Int) ≤ (k : Int) := by omega
                    have hkm : (k : Int) < (n4 : Int) := by omega
                    have hn6a := HL6A.out.2
                    have hn6c := HL6C.out.2
                    have hn6d := HL6D.out.2
                    clear hcs hin ham hle hab hx hbd hle2 HSC0
                    go_upto_region 26 with fail
                    clear hbx
                    refine wp_region_noPanic ?_
                    refine late.region (fun w' => w'.cell? ⟨p4, 1, none⟩ = some (.slice (some ⟨gd, 0, none⟩) n4 c4a) ∧ w'.cell? ⟨gd, k * 4, none⟩ = some (.int .i64 xk) ∧ w'.cell? ⟨gd, k * 4 + 1, none⟩ = some (.int .i64 xn) ∧ w'.cell? ⟨gd, k * 4 + 2, none⟩ = some (.int .i64 xg) ∧ w'.cell? ⟨gd, k * 4 + 3, none⟩ = some (.int .i64 xa)) (fun j => [17].contains j) (by kernel_rfl) (HSC.out _ (HW.out.drew)) (fun hHeld => ?_)
                    obtain ⟨z0, hz0⟩ : ∃ x, x = wr.drew := ⟨_, rfl⟩
                    rw [← hz0] at hHeld ⊢
                    have hot : Hid (Only (fun q => q = mb) wB z0) := Lib.hid (by rw [hz0]; exact HW.out.drew)
                    have hx0 := HX0.out
                    have HEN := Lib.hid ((HMP.out.same (w' := z0) (by rw [hz0]; rfl)).entry HK1.out HK2.out HK3.out (by omega))
                    rw [HX.out] at HEN
                    have HLK1 := Lib.hid ((HMP.out.same (w' := z0) (by rw [hz0]; rfl)).look HK1.out HK2.out HK3.out)
                    rw [HX.out] at HLK1
                    unfold accm.accV at HLK1 HEN
                    clear hz0
                    refine late.take (i := 0) [7, 14, 15, 16, 17] (v := ?_) rfl (by kernel_rfl) (by kernel_rfl) (by kernel_rfl) (by kernel_rfl) (fun _ _ _ h => h) (Or.inl ⟨by rfl, ?_⟩) (by assumption) ?_
                    rotate_left 1
                    · intro w' hSw
                      try dsimp only at hSw
                      go_simp
                      try with_reducible rfl
                    try simp only [List.getElem_toArray, List.getElem_cons_zero, Act.put, List.setIfInBounds_toArray, List.set_cons_zero, List.set_cons_succ]
                    refine late.take (i := 1) [2, 4, 5, 6, 7, 14, 15, 16, 17] (v := ?_) rfl (by kernel_rfl) (by kernel_rfl) (by kernel_rfl) (by kernel_rfl) (fun _ _ _ h => h) (Or.inl ⟨by rfl, ?_⟩) (by assumption) ?_
                    rotate_left 1
                    · intro w' hSw
                      try dsimp only at hSw
                      go_simp
                      try with_reducible rfl
                    try simp only [List.getElem_toArray, List.getElem_cons_zero, List.getElem_cons_succ, Act.put, List.setIfInBounds_toArray, List.set_cons_zero, List.set_cons_succ]
                    refine late.take (i := 2) [4, 5, 6, 7, 14, 15, 16, 17] (v := ?_) rfl (by kernel_rfl) (by kernel_rfl) (by kernel_rfl) (by kernel_rfl) (fun _ _ _ h => h) (Or.inl ⟨by rfl, ?_⟩) (by assumption) ?_
                    rotate_left 1
                    · intro w' hSw
                      try dsimp only at hSw
                      go_simp
                      try with_reducible rfl
                    try simp only [List.getElem_toArray, List.getElem_cons_zero, List.getElem_cons_succ, Act.put, List.setIfInBounds_toArray, List.set_cons_zero, List.set_cons_succ]
                    refine late.take (i := 3) [4, 5, 6, 7, 14, 15, 16, 17] (v := ?_) rfl (by kernel_rfl) (by kernel_rfl) (by kernel_rfl) (by kernel_rfl) (fun _ _ _ h => h) (Or.inl ⟨by rfl, ?_⟩) (by assumption) ?_
                    rotate_left 1
                    · intro w' hSw
                      try dsimp only at hSw
                      go_simp
                      try with_reducible rfl
                    try simp only [List.getElem_toArray, List.getElem_cons_zero, List.getElem_cons_succ, Act.put, List.setIfInBounds_toArray, List.set_cons_zero, List.set_cons_succ]
                    refine late.take (i := 4) [5, 6, 7, 14, 15, 16, 17] (v := ?_) rfl (by kernel_rfl) (by kernel_rfl) (by kernel_rfl) (by kernel_rfl) (fun _ _ _ h => h) (Or.inl ⟨by rfl, ?_⟩) (by assumption) ?_
                    rotate_left 1
                    · intro w' hSw
                      try dsimp only at hSw
                      go_simp
                      try with_reducible rfl
                    try simp only [List.getElem_toArray, List.getElem_cons_zero, List.getElem_cons_succ, Act.put, List.setIfInBounds_toArray, List.set_cons_zero, List.set_cons_succ]
                    refine late.take (i := 5) [6, 7, 14, 15, 16, 17] (v := ?_) rfl (by kernel_rfl) (by kernel_rfl) (by kernel_rfl) (by kernel_rfl) (fun _ _ _ h => h) (Or.inl ⟨by rfl, ?_⟩) (by assumption) ?_
                    rotate_left 1
                    · intro w' hSw
                      try dsimp only at hSw
                      go_simp
                      try with_reducible rfl
                    try simp only [List.getElem_toArray, List.getElem_cons_zero, List.getElem_cons_succ, Act.put, List.setIfInBounds_toArray, List.set_cons_zero, List.set_cons_succ]
                    refine late.take (i := 6) [7, 14, 15, 16, 17] (v := ?_) rfl (by kernel_rfl) (by kernel_rfl) (by kernel_rfl) (by kernel_rfl) (fun _ _ _ h => h) (Or.inl ⟨by rfl, ?_⟩) (by assumption) ?_
                    rotate_left 1
                    · intro w' hSw
                      try dsimp only at hSw
                      go_simp
                      try with_reducible rfl
                    try simp only [List.getElem_toArray, List.getElem_cons_zero, List.getElem_cons_succ, Act.put, List.setIfInBounds_toArray, List.set_cons_zero, List.set_cons_succ]
                    refine late.take (i := 8) [9, 11, 12, 13, 14, 15, 16, 17] (v := ?_) rfl (by kernel_rfl) (by kernel_rfl) (by kernel_rfl) (by kernel_rfl) (fun _ _ _ h => h) (Or.inl ⟨by rfl, ?_⟩) (by assumption) ?_
                    rotate_left 1
                    · intro w' hSw
                      try dsimp only at hSw
                      go_simp
                      try with_reducible rfl
                    try simp only [List.getElem_toArray, List.getElem_cons_zero, List.getElem_cons_succ, Act.put, List.setIfInBounds_toArray, List.set_cons_zero, List.set_cons_succ]
                    refine late.take (i := 9) [11, 12, 13, 14, 15, 16, 17] (v := ?_) rfl (by kernel_rfl) (by kernel_rfl) (by kernel_rfl) (by kernel_rfl) (fun _ _ _ h => h) (Or.inl ⟨by rfl, ?_⟩) (by assumption) ?_
                    rotate_left 1
                    · intro w' hSw
                      try dsimp only at hSw
                      go_simp
                      try with_reducible rfl
                    try simp only [List.getElem_toArray, List.getElem_cons_zero, List.getElem_cons_succ, Act.put, List.setIfInBounds_toArray, List.set_cons_zero, List.set_cons_succ]
                    refine late.take (i := 10) [11, 12, 13, 14, 15, 16, 17] (v := ?_) rfl (by kernel_rfl) (by kernel_rfl) (by kernel_rfl) (by kernel_rfl) (fun _ _ _ h => h) (Or.inl ⟨by rfl, ?_⟩) (by assumption) ?_
                    rotate_left 1
                    · intro w' hSw
                      try dsimp only at hSw
                      go_simp
                      try with_reducible rfl
                    try simp only [List.getElem_toArray, List.getElem_cons_zero, List.getElem_cons_succ, Act.put, List.setIfInBounds_toArray, List.set_cons_zero, List.set_cons_succ]
                    refine late.take (i := 11) [12, 13, 14, 15, 16, 17] (v := ?_) rfl (by kernel_rfl) (by kernel_rfl) (by kernel_rfl) (by kernel_rfl) (fun _ _ _ h => h) (Or.inl ⟨by rfl, ?_⟩) (by assumption) ?_
                    rotate_left 1
                    · intro w' hSw
                      try dsimp only at hSw
                      go_simp
                      try with_reducible rfl
                    try simp only [List.getElem_toArray, List.getElem_cons_zero, List.getElem_cons_succ, Act.put, List.setIfInBounds_toArray, List.set_cons_zero, List.set_cons_succ]
                    refine late.take (i := 12) [13, 14, 15, 16, 17] (v := ?_) rfl (by kernel_rfl) (by kernel_rfl) (by kernel_rfl) (by kernel_rfl) (fun _ _ _ h => h) (Or.inl ⟨by rfl, ?_⟩) (by assumption) ?_
                    rotate_left 1
                    · intro w' hSw
                      try dsimp only at hSw
                      go_simp
                      try with_reducible rfl
                    try simp only [List.getElem_toArray, List.getElem_cons_zero, List.getElem_cons_succ, Act.put, List.setIfInBounds_toArray, List.set_cons_zero, List.set_cons_succ]
                    refine late.take (i := 13) [14, 15, 16, 17] (v := ?_) rfl (by kernel_rfl) (by kernel_rfl) (by kernel_rfl) (by kernel_rfl) (fun _ _ _ h => h) (Or.inl ⟨by rfl, ?_⟩) (by assumption) ?_
                    rotate_left 1
                    · intro w' hSw
                      try dsimp only at hSw
                      go_simp
                      try with_reducible rfl
                    try simp only [List.getElem_toArray, List.getElem_cons_zero, List.getElem_cons_succ, Act.put, List.setIfInBounds_toArray, List.set_cons_zero, List.set_cons_succ]
                    refine late.ready (rs := [7, 15]) (by kernel_rfl) (by simp) ?_
                    refine late.Each.cons rfl (fun K hK => ?_) (late.Each.cons rfl (fun K hK => ?_) late.Each.nil)
                    · have hlk := HLK1.out
                      try simp only [List.getElem_toArray, List.getElem_cons_zero, List.getElem_cons_succ]
                      go_simp
                      refine hK.out _ _ (fun _ => HSC.out _ hot.out) (fun hHeld1 => ?_)
                      replace hHeld1 := hHeld1 rfl
                      clear hK K
                      clear hlk
                      try simp only [List.getElem_toArray, List.getElem_cons_zero, List.getElem_cons_succ, Act.put, List.setIfInBounds_toArray, List.set_cons_zero, List.set_cons_succ]
                      refine late.take (i := 14) [17] (v := ?_) rfl (by kernel_rfl) (by kernel_rfl) (by kernel_rfl) (by kernel_rfl) (fun _ _ _ h => h) (Or.inl ⟨by rfl, ?_⟩) (by assumption) ?_
                      rotate_left 1
                      · intro w' hSw
                        try dsimp only at hSw
                        go_simp
                        try with_reducible rfl
                      try simp only [List.getElem_toArray, List.getElem_cons_zero, List.getElem_cons_succ, Act.put, List.setIfInBounds_toArray, List.set_cons_zero, List.set_cons_succ]
                      refine late.ready (rs := [15]) (by kernel_rfl) (by simp) ?_
                      refine late.Each.cons rfl (fun K hK => ?_) late.Each.nil
                      obtain ⟨m0, st, y1, hme, ho, -, hl2, hst⟩ := HEN.out
                      have HLK2 := Lib.hid hl2
                      have HST := Lib.hid hst
                      clear hl2 hst
                      try simp only [List.getElem_toArray, List.getElem_cons_zero, List.getElem_cons_succ]
                      go_simp
                      clear hme
                      replace hot := Lib.hid (hot.out.trans ho)
                      clear ho
                      refine hK.out _ _ (fun _ => HSC.out _ hot.out) (fun hHeld2 => ?_)
                      replace hHeld2 := hHeld2 rfl
                      clear hK K
                      try simp only [List.getElem_toArray, List.getElem_cons_zero, List.getElem_cons_succ, Act.put, List.setIfInBounds_toArray, List.set_cons_zero, List.set_cons_succ]
                      refine late.take (i := 16) [17] (v := ?_) rfl (by kernel_rfl) (by kernel_rfl) (by kernel_rfl) (by kernel_rfl) (fun _ _ _ h => h) (Or.inl ⟨by rfl, ?_⟩) (by assumption) ?_
                      rotate_left 1
                      · intro w' hSw
                        try dsimp only at hSw
                        go_simp
                        try with_reducible rfl
                      try simp only [List.getElem_toArray, List.getElem_cons_zero, List.getElem_cons_succ, Act.put, List.setIfInBounds_toArray, List.set_cons_zero, List.set_cons_succ]
                      refine late.ready (rs := [17]) (by kernel_rfl) (by simp) ?_
                      refine late.Each.cons rfl (fun K hK => ?_) late.Each.nil
                      obtain ⟨y2, hes, ho, hmi⟩ := HST.out y1 (x0 + xa) HX2.out rfl
                      have HMI := Lib.hid hmi
                      clear hmi hHeld
                      try simp only [List.getElem_toArray, List.getElem_cons_zero, List.getElem_cons_succ]
                      go_simp
                      clear hes
                      replace hot := Lib.hid (hot.out.trans ho)
                      clear ho
                      refine hK.out _ _ (fun h => by cases h) (fun _ => ?_)
                      clear hK K
                      try simp only [List.getElem_toArray, List.getElem_cons_zero, List.getElem_cons_succ, Act.put, List.setIfInBounds_toArray, List.set_cons_zero, List.set_cons_succ]
                      refine late.done (by kernel_rfl) ?_ _
                      refine NoPanic.normal ?_
                      have HMN : Hid (MapI y2 mb ((n1 + n3) + (k + 1)) (fun x y z => atS x y z ((la ++ lc) ++ ld.take (k + 1)))) := Lib.hid (by
                        have := HMI.out
                        rw [← HX.out, upd_snoc (la ++ lc) ld k (by rw [← HND.out]; exact h8) xk xn xg xa HLE.out] at this
                        exact this)
                      have HON := Lib.hid hot.out
                      clear hot HMI HST HX HX0 HX2 HK1 HK2 HK3 HLE HSC
                      go_wp2_with fail
                      go_roundw
                      case rel => exact ⟨k + 1, by omega, by go_num, HMN, HON⟩
                      case measure => (simp [intOf]; omega)

                    · obtain ⟨m0, st, y1, hme, ho, -, hl2, hst⟩ := HEN.out
                      have HLK2 := Lib.hid hl2
                      have HST := Lib.hid hst
                      clear hl2 hst
                      try simp only [List.getElem_toArray, List.getElem_cons_zero, List.getElem_cons_succ]
                      go_simp
                      clear hme
                      replace hot := Lib.hid (hot.out.trans ho)
                      clear ho
                      refine hK.out _ _ (fun _ => HSC.out _ hot.out) (fun hHeld4 => ?_)
                      replace hHeld4 := hHeld4 rfl
                      clear hK K
                      try simp only [List.getElem_toArray, List.getElem_cons_zero, List.getElem_cons_succ, Act.put, List.setIfInBounds_toArray, List.set_cons_zero, List.set_cons_succ]
                      refine late.take (i := 16) [17] (v := ?_) rfl (by kernel_rfl) (by kernel_rfl) (by kernel_rfl) (by kernel_rfl) (fun _ _ _ h => h) (Or.inl ⟨by rfl, ?_⟩) (by assumption) ?_
                      rotate_left 1
                      · intro w' hSw
                        try dsimp only at hSw
                        go_simp
                        try with_reducible rfl
                      try simp only [List.getElem_toArray, List.getElem_cons_zero, List.getElem_cons_succ, Act.put, List.setIfInBounds_toArray, List.set_cons_zero, List.set_cons_succ]
                      refine late.ready (rs := [7]) (by kernel_rfl) (by simp) ?_
                      refine late.Each.cons rfl (fun K hK => ?_) late.Each.nil
                      have hlk := HLK2.out
                      try simp only [List.getElem_toArray, List.getElem_cons_zero, List.getElem_cons_succ]
                      go_simp
                      refine hK.out _ _ (fun _ => HSC.out _ hot.out) (fun hHeld5 => ?_)
                      replace hHeld5 := hHeld5 rfl
                      clear hK K
                      clear hlk
                      try simp only [List.getElem_toArray, List.getElem_cons_zero, List.getElem_cons_succ, Act.put, List.setIfInBounds_toArray, List.set_cons_zero, List.set_cons_succ]
                      refine late.take (i := 14) [17] (v := ?_) rfl (by kernel_rfl) (by kernel_rfl) (by kernel_rfl) (by kernel_rfl) (fun _ _ _ h => h) (Or.inl ⟨by rfl, ?_⟩) (by assumption) ?_
                      rotate_left 1
                      · intro w' hSw
                        try dsimp only at hSw
                        go_simp
                        try with_reducible rfl
                      try simp only [List.getElem_toArray, List.getElem_cons_zero, List.getElem_cons_succ, Act.put, List.setIfInBounds_toArray, List.set_cons_zero, List.set_cons_succ]
                      refine late.ready (rs := [17]) (by kernel_rfl) (by simp) ?_
                      refine late.Each.cons rfl (fun K hK => ?_) late.Each.nil
                      obtain ⟨y2, hes, ho, hmi⟩ := HST.out y1 (x0 + xa) HX2.out rfl
                      have HMI := Lib.hid hmi
                      clear hmi hHeld
                      try simp only [List.getElem_toArray, List.getElem_cons_zero, List.getElem_cons_succ]
                      go_simp
                      clear hes
                      replace hot := Lib.hid (hot.out.trans ho)
                      clear ho
                      refine hK.out _ _ (fun h => by cases h) (fun _ => ?_)
                      clear hK K
                      try simp only [List.getElem_toArray, List.getElem_cons_zero, List.getElem_cons_succ, Act.put, List.setIfInBounds_toArray, List.set_cons_zero, List.set_cons_succ]
                      refine late.done (by kernel_rfl) ?_ _
                      refine NoPanic.normal ?_
                      have HMN : Hid (MapI y2 mb ((n1 + n3) + (k + 1)) (fun x y z => atS x y z ((la ++ lc) ++ ld.take (k + 1)))) := Lib.hid (by
                        have := HMI.out
                        rw [← HX.out, upd_snoc (la ++ lc) ld k (by rw [← HND.out]; exact h8) xk xn xg xa HLE.out] at this
                        exact this)
                      have HON := Lib.hid hot.out
                      clear hot HMI HST HX HX0 HX2 HK1 HK2 HK3 HLE HSC
                      go_wp2_with fail
                      go_roundw
                      case rel => exact ⟨k + 1, by omega, by go_num, HMN, HON⟩
                      case measure => (simp [intOf]; omega)
                  · have hge : ¬ (k : Int) < (n4 : Int) := by omega
                    obtain rfl : n4 = k := by omega
                    obtain ⟨wE, hwE⟩ : ∃ x, x = wr := ⟨_, rfl⟩
                    rw [← hwE] at HMP HW hbx ⊢
                    clear hwE
                    have HME : Hid (∀ x y z, I64 x → I64 y → I64 z → (Instr.lookup 36 (.map (some mb)) (accm.accV x y z) false).run Try.prog wE = .ok (.int .i64 0) wE) := Lib.hid (fun x y z h1 h2 h3 => by
                      have h := HMP.out.look h1 h2 h3
                      rw [List.take_of_length_le (show ld.length ≤ n4 by have := HND.out; omega), HZ.out] at h
                      exact h)
                    unfold accm.accV at HME
                    have HOE : Hid (Only (fun _ => False) w wE) := Lib.hid ((HOW6.out.trans HOB.out).then HW.out (fun q hq e => by have := HOW6.out.size; have := HMB.out; omega))
                    have HPE := Lib.hid (HPI.out wE HW.out)
                    clear HMP HW
                    go_wp2_with fail
                    clear hbx hge
                    go_loopw [19] (fun i wr => ∃ k : Nat, k ≤ n ∧ i = .int .i64 k ∧ Hid (wr = wE)) (fun i _ => n - (intOf i).toNat)
                    case atStart => exact ⟨0, by omega, rfl, Lib.hid rfl⟩
                    case round =>
                      obtain ⟨k, hk, rfl, HW⟩ := hrel
                      obtain rfl := HW.out
                      by_cases h8 : k < n
                      · obtain ⟨b, off, rfl, hc⟩ := HPE.out.2.2.2.resolve_left (by omega)
                        have hck := hc k h8
                        have hin := in_getD l HPE.out.2.2.1 k
                        generalize l.getD k 0 = pn at *
                        have q2 := HME.out 2 pn 0 (by unfold I64; omega) hin (by unfold I64; omega)
                        have q3 := HME.out 3 pn 0 (by unfold I64; omega) hin (by unfold I64; omega)
                        have q4 := HME.out 4 pn group (by unfold I64; omega) hin HG.out
                        have hk0 : (0 : Int) ≤ (k : Int) := by omega
                        have hkm : (k : Int) < (n : Int) := by omega
                        clear hc hin
                        have hb2 := run_buildA2
                        have hb3 := run_buildA3
                        go_wp2_with fail
                        go_roundw
                        case rel => exact ⟨k + 1, by omega, by go_num, Lib.hid (by first | trivial | rfl)⟩
                        case measure => (simp [intOf]; omega)
                      · have hge : ¬ (k : Int) < (n : Int) := by omega
                        go_wp2_with fail
                        go_ret
                        exact ⟨rfl, HOE.out⟩
      · have h1 : ec = 1 := by omega
        subst h1
        go_wp2_with fail
        go_ret
        exact ⟨rfl, HO5.out.trans HO6.out⟩
    · have hz : (ea == 0) = false := by simpa using h0
      have hz2 : (ea != 0) = true := by simpa using h0
      go_wp2_with fail
      go_ret
      exact ⟨rfl, HO5.out⟩
theorem opens_walk (amount group : Int) (hg : -9223372036854775808 ≤ group ∧ group ≤ 9223372036854775807) (a : Option Addr) (len cap : Nat) (l : List Int) (w : World) (h : IntsR w a len cap l) :
    Calls Try.prog 3 #[.int .i64 amount, .slice a len cap, .int .i64 group] w fun e w' => e = .returned (.bool true) ∧ Below w.heap.size w w' :=
  (opens_any amount group hg a len cap l w h).mono fun _ _ ⟨p, q⟩ => ⟨p, q.none⟩
end Go.Proofs.Ytgfcdppgapblaaa.entw
