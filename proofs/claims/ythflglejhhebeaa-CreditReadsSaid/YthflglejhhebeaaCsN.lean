/- Sessions with grants: an act, done to both tables. -/
import Derived.Test.YthflglejhhebeaaCsL
namespace Go.Proofs.Ythflglejhhebeaa.cs
open Go.RowKit mem rwg
set_option linter.unusedVariables false

theorem kmod4 (a : Int) : ∃ K : Int, wrap64 ((IntKind.u64.wrap a).tmod 4) = K ∧ (K = 0 ∨ K = 1 ∨ K = 2 ∨ K = 3) := by
  have h0 : 0 ≤ IntKind.u64.wrap a := by rw [IntKind.wrap_u64]; omega
  rw [Int.tmod_eq_emod_of_nonneg h0]
  have h3 := Int.emod_nonneg (IntKind.u64.wrap a) (by omega : (4 : Int) ≠ 0)
  have h4 := Int.emod_lt_of_pos (IntKind.u64.wrap a) (by omega : (0 : Int) < 4)
  generalize IntKind.u64.wrap a % 4 = r at *
  exact ⟨r, IntWalk.wrap64_in _ (by omega), by omega⟩
/-- both tables, of the same sessions -/
structure TBs (base : Nat) (S1 S2 : Nat → Prop) (pl last : Int) (p q : Nat) (v v2 : Value) (L L2 : List Sd) (K : List Sx) (w : World) : Prop where
  pt : PT S1 w p pl last v L
  dt : DT S2 w q pl last v2 L2
  e1 : L.map Sd.sx = K
  e2 : L2.map Sd.sx = K
  ok : TOk pl last K
  d1 : ∀ x, S1 x → base ≤ x ∧ x < w.heap.size ∧ ¬ S2 x
  d2 : ∀ x, S2 x → base ≤ x ∧ x < w.heap.size
def TB (base : Nat) (pl last : Int) (p q : Nat) (K : List Sx) (w : World) : Prop := ∃ S1 S2 v v2 L L2, TBs base S1 S2 pl last p q v v2 L L2 K w
theorem TBs.quiet {base : Nat} {S1 S2 : Nat → Prop} {pl last : Int} {p q : Nat} {v v2 : Value} {L L2 : List Sd} {K : List Sx} {w w' : World} (h : TBs base S1 S2 pl last p q v v2 L L2 K w) (ho : Only (fun _ => False) w w') : TBs base S1 S2 pl last p q v v2 L L2 K w' :=
  ⟨h.pt.quiet ho, h.dt.quiet ho, h.e1, h.e2, h.ok, fun x s => ⟨(h.d1 x s).1, by have := (h.d1 x s).2.1; have := ho.size; omega, (h.d1 x s).2.2⟩, fun x s => ⟨(h.d2 x s).1, by have := (h.d2 x s).2; have := ho.size; omega⟩⟩
/-- behind a call to the one, and a call to the other -/
theorem TBs.step {base : Nat} {S1 S2 : Nat → Prop} {pl last last' : Int} {p q : Nat} {v v2 : Value} {L L2 : List Sd} {K K' : List Sx} {w wa wb wc wd : World} {a : Option Addr} {na : Nat}
    (h : TBs base S1 S2 pl last p q v v2 L L2 K w) (ho : Only (fun _ => False) w wa) (hp : TRes S1 p pl last' K' wa wb) (hbc : Only (fun x => w.heap.size ≤ x ∧ x < wa.heap.size) wb wc) (hd : DRes S2 (DSet S2 a wc) q pl last' K' wc wd) (ha : ∀ y, a = some y → w.heap.size ≤ y.block ∧ y.block < wa.heap.size) (hok : TOk pl last' K') : TB base pl last' p q K' wd ∧ Only (fun x => S1 x ∨ S2 x) w wd := by
  obtain ⟨⟨v', L', hK, hpt⟩, hop⟩ := hp
  obtain ⟨⟨v2', L2', hK2, hdt⟩, hod⟩ := hd
  have hs1 := ho.size
  have hs2 := hop.size
  have hs3 := hbc.size
  have hs4 := hod.size
  have hbw : base ≤ w.heap.size := by have := (h.d1 p h.pt.sp); omega
  refine ⟨⟨fun x => S1 x ∨ (wa.heap.size ≤ x ∧ x < wb.heap.size), fun x => (S2 x ∨ (∃ y, a = some y ∧ y.block = x) ∨ wc.heap.size ≤ x) ∧ x < wd.heap.size, v', v2', L', L2', ⟨?_, hdt.mono (fun x hx s => ⟨s, hx⟩), hK, hK2, hok, ?_, ?_⟩⟩, ?_⟩
  · refine ((hpt.mono (T := fun x => S1 x ∨ (wa.heap.size ≤ x ∧ x < wb.heap.size)) (fun x hx s => s.imp (fun y => y) (fun y => ⟨y, hx⟩))).only hbc (fun x s e => ?_)).only hod (fun x s e => ?_)
    · rcases s with s | s
      · have := (h.d1 x s).2.1; omega
      · omega
    · rcases s with s | s
      · exact (h.d1 x s).2.2 e
      · have := (h.d2 x e).2; omega
  · rintro x (s | s)
    · have h1 := h.d1 x s
      refine ⟨h1.1, by omega, ?_⟩
      rintro ⟨s2 | ⟨y, e, e2⟩ | s2, -⟩
      · exact h1.2.2 s2
      · have := ha y e; omega
      · omega
    · refine ⟨by omega, by omega, ?_⟩
      rintro ⟨s2 | ⟨y, e, e2⟩ | s2, -⟩
      · have := (h.d2 x s2).2; omega
      · have := ha y e; omega
      · omega
  · rintro x ⟨s2 | ⟨y, e, e2⟩ | s2, hx⟩
    · exact ⟨(h.d2 x s2).1, hx⟩
    · have := ha y e; exact ⟨by omega, hx⟩
    · exact ⟨by omega, hx⟩
  · have hx1 : Only (fun x => S1 x ∨ S2 x) w wb := (ho.mono (fun _ _ f => f.elim)).then hop (fun x hx s => .inl s)
    have hx2 : Only (fun x => S1 x ∨ S2 x) w wc := hx1.then hbc (fun x hx s => by omega)
    exact hx2.then hod (fun x hx s => .inr s)
theorem own_units {t : TypeId} {w : World} {a : Option Addr} {n c : Nat} {gs : List Gr} (h : OwnR (EG t) w (.slice a n c) gs) (hn : gs.length = n) : ∀ k, k < n → ∃ (b : Nat) (z : Int), a = some ⟨b, 0, none⟩ ∧ w.cell? ⟨b, k * 4 + 1, none⟩ = some (.int .i64 z) ∧ w.frozen? ⟨b, k * 4 + 1, none⟩ = false := by
  intro k hk
  have h0 := h
  rcases h.form with ⟨hv, hl⟩ | ⟨b, cap, hv, -, -, -, hc⟩
  · rw [hl] at hn; simp at hn; omega
  · injection hv with e1 e2 e3
    subst e1
    refine ⟨b, (gs.getD k default).u, rfl, ?_, h0.frozen _⟩
    have := hc k (by omega) 1 _ rfl
    rw [Nat.zero_add] at this
    exact this
set_option maxRecDepth 100000 in
set_option maxHeartbeats 16000000 in
theorem do_any {base : Nat} {pl last : Int} {p q : Nat} {K : List Sx} (what i nd num dl m : Int) (a : Option Addr) (n c : Nat) (gs : List Gr) (w : World) (h : TB base pl last p q K w) (hr : ReadsG w a n gs) (hc : Cp a n c) :
    Calls Try.prog 18 #[.agg #[.int .i64 what, .int .i64 i, .int .i64 nd, .int .i64 num, .int .i64 dl, .slice a n c, .int .i64 m], .pointer (some ⟨p, 0, none⟩), .pointer (some ⟨q, 0, none⟩)] w fun e w' => e = .returned (.bool true) ∧ (∃ K' last', TB base pl last' p q K' w') ∧ Only (fun x => base ≤ x) w w' := by
  obtain ⟨S1, S2, v, v2, L, L2, hT⟩ := h
  obtain ⟨K0, hK0, hK4⟩ := kmod4 what
  obtain ⟨w1, hw1⟩ : ∃ x, x = w.alloc (.cells #[.int .i64 what, .int .i64 i, .int .i64 nd, .int .i64 num, .int .i64 dl, .slice a n c, .int .i64 m] 52) := ⟨_, rfl⟩
  obtain ⟨g, hg⟩ : ∃ x, x = w.heap.size := ⟨_, rfl⟩
  have hb : ∀ k u, (#[.int .i64 what, .int .i64 i, .int .i64 nd, .int .i64 num, .int .i64 dl, .slice a n c, .int .i64 m] : Array Value)[k]? = some u → w1.cell? ⟨g, k, none⟩ = some u := fun k u hu => by
    rw [hw1, hg, Go.Joins.cell_of_block (cs := #[.int .i64 what, .int .i64 i, .int .i64 nd, .int .i64 num, .int .i64 dl, .slice a n c, .int .i64 m]) (t := 52) (fr := (0, 0)) (by rw [heap_alloc, if_pos rfl])]; exact hu
  have ho1 : Only (fun _ => False) w w1 := by rw [hw1]; exact (Only.refl _ _).alloc _
  have b0 := hb 0 _ rfl
  have b1 := hb 1 _ rfl
  have b2 := hb 2 _ rfl
  have b3 := hb 3 _ rfl
  have b4 := hb 4 _ rfl
  have b5 := hb 5 _ rfl
  have b6 := hb 6 _ rfl
  have HTA := Lib.hid (tame_any i nd num dl a n c gs w1 (hr.quiet ho1) hc)
  have HO1 := Lib.hid ho1
  have HB : Hid (w1.cell? ⟨g, 0, none⟩ = some (.int .i64 what) ∧ w1.cell? ⟨g, 6, none⟩ = some (.int .i64 m)) := Lib.hid ⟨b0, b6⟩
  have HGW : Hid (g = w.heap.size) := Lib.hid hg
  have HT := Lib.hid hT
  clear hb ho1 hr hc hT
  go_enter Try.func18, Try.ntmps18
  go_upto_region 1 with fail
  simp only [← hw1, ← hg]
  clear hw1 hg
  go_wp2_with fail
  refine HTA.out.mono ?_
  rintro _ w2 ⟨xa, xc, rfl, hgt⟩
  obtain ⟨mm, hmm⟩ : ∃ x, x = min n 6 := ⟨_, rfl⟩
  obtain ⟨gs6, hgs⟩ : ∃ x, x = gs.take 6 := ⟨_, rfl⟩
  rw [← hmm, ← hgs] at hgt
  rw [← hmm]
  have HM6 : Hid (mm ≤ 6) := Lib.hid (by omega)
  have HGT := Lib.hid hgt
  clear hmm hgs b0 b1 b2 b3 b4 b5 b6 HTA
  obtain ⟨w3, hw3⟩ : ∃ x, x = w2.alloc (.cells #[.int .i64 i, .int .i64 nd, .int .i64 num, .int .i64 dl, .slice xa mm xc] 50) := ⟨_, rfl⟩
  obtain ⟨g7, hg7⟩ : ∃ x, x = w2.heap.size := ⟨_, rfl⟩
  obtain ⟨c0, c1, c2, c3, c4, ho3⟩ := sbox hw3 hg7
  have HO2 := Lib.hid (HO1.out.trans hgt.2.2.2)
  have HO3 := Lib.hid (HO2.out.trans ho3)
  have HG7 : Hid (w.heap.size ≤ g7 ∧ g7 < w3.heap.size ∧ g < g7) := Lib.hid ⟨by rw [hg7]; exact HO2.out.size, by rw [hw3, hg7, size_alloc]; omega, by have h1 := HO1.out.size; have h2 := hgt.2.2.2.size; have h3 := HGW.out; have h4 := World.block_lt_of_cell? w1 _ HB.out.1; rw [hg7]; exact Nat.lt_of_lt_of_le h4 h2⟩
  have HX : Hid (ReadsG w3 xa mm gs6 ∧ Cp xa mm xc ∧ ∀ y, xa = some y → w.heap.size ≤ y.block ∧ y.block < w3.heap.size) := Lib.hid ⟨hgt.1.quiet ho3, hgt.2.1, fun y e => ⟨Nat.le_trans HO1.out.size (hgt.2.2.1 y e).1, Nat.lt_of_lt_of_le (hgt.2.2.1 y e).2 ho3.size⟩⟩
  have HB3 : Hid (w3.cell? ⟨g, 0, none⟩ = some (.int .i64 what) ∧ w3.cell? ⟨g, 6, none⟩ = some (.int .i64 m)) := Lib.hid ⟨(hgt.2.2.2.trans ho3).cell' HB.out.1 (fun f => f), (hgt.2.2.2.trans ho3).cell' HB.out.2 (fun f => f)⟩
  have HC7 : Hid (w3.cell? ⟨g7, 0, none⟩ = some (.int .i64 i) ∧ w3.cell? ⟨g7, 1, none⟩ = some (.int .i64 nd) ∧ w3.cell? ⟨g7, 2, none⟩ = some (.int .i64 num) ∧ w3.cell? ⟨g7, 3, none⟩ = some (.int .i64 dl) ∧ w3.cell? ⟨g7, 4, none⟩ = some (.slice xa mm xc)) := Lib.hid ⟨c0, c1, c2, c3, c4⟩
  have HT3 := Lib.hid (HT.out.quiet HO3.out)
  have HSZ : Hid (w.heap.size ≤ w3.heap.size) := Lib.hid HO3.out.size
  have HN1 : Hid (mm ≤ 1000) := Lib.hid (by have := HM6.out; omega)
  have b0 := HB3.out.1
  clear hgt ho3 HGT
  go_upto_region 2 with fail
  simp only [← hw3, ← hg7]
  clear hw3 hg7
  rcases hK4 with rfl | rfl | rfl | rfl
  · have HKP : Hid (∀ w', Only (fun x => S1 x ∨ S2 x) w3 w' → w'.cell? ⟨g7, 0, none⟩ = some (.int .i64 i) ∧ w'.cell? ⟨g7, 1, none⟩ = some (.int .i64 nd) ∧ w'.cell? ⟨g7, 2, none⟩ = some (.int .i64 num) ∧ w'.cell? ⟨g7, 3, none⟩ = some (.int .i64 dl) ∧ w'.cell? ⟨g7, 4, none⟩ = some (.slice xa mm xc)) := Lib.hid (fun w' ho => by
      have hn : ¬ (S1 g7 ∨ S2 g7) := by
        have h1 := HG7.out.1
        rintro (s | s)
        · have := (HT.out.d1 g7 s).2.1; omega
        · have := (HT.out.d2 g7 s).2; omega
      exact ⟨ho.cell' HC7.out.1 hn, ho.cell' HC7.out.2.1 hn, ho.cell' HC7.out.2.2.1 hn, ho.cell' HC7.out.2.2.2.1 hn, ho.cell' HC7.out.2.2.2.2 hn⟩)
    have HKM : Hid (∀ w', Only (fun x => S1 x ∨ S2 x) w3 w' → w'.cell? ⟨g, 6, none⟩ = some (.int .i64 m)) := Lib.hid (fun w' ho => by
      have hn : ¬ (S1 g ∨ S2 g) := by
        have h1 := HGW.out
        rintro (s | s)
        · have := (HT.out.d1 g s).2.1; omega
        · have := (HT.out.d2 g s).2; omega
      exact ho.cell' HB3.out.2 hn)
    have HXK : Hid (∀ w', Only (fun x => S1 x ∨ S2 x) w3 w' → ReadsG w' xa mm gs6) := Lib.hid (fun w' ho => HX.out.1.only ho (fun y e s => by
      have h1 := (HX.out.2.2 y e).1
      rcases s with s | s
      · have := (HT.out.d1 _ s).2.1; omega
      · have := (HT.out.d2 _ s).2; omega))
    have HFR : Hid (∀ w', Only (fun x => S1 x ∨ S2 x) w3 w' → ∀ y, xa = some y → 0 < mm → ¬ S2 y.block ∧ y.block < w'.heap.size) := Lib.hid (fun w' ho y e hn => by
      have h1 := HX.out.2.2 y e
      have h2 := ho.size
      exact ⟨fun s => by have := (HT.out.d2 _ s).2; omega, by omega⟩)
    have HTO := Lib.hid (to_any i nd num dl xa mm xc gs6 w3 HX.out.1 HX.out.2.1 HN1.out)
    obtain ⟨er, her⟩ : ∃ x, x = addE pl last K ⟨i, nd, num, dl, gs6⟩ := ⟨_, rfl⟩
    have hlen : (L.length : Int) ≤ pl ∧ pl ≤ 16 := by have h1 := HT3.out.ok.ln; have h2 := HT3.out.ok.p1; rw [← HT3.out.e1, List.length_map] at h1; exact ⟨h1, h2.2⟩
    have hlen2 : (L2.length : Int) ≤ pl ∧ pl ≤ 16 := by have h1 := HT3.out.ok.ln; have h2 := HT3.out.ok.p1; rw [← HT3.out.e2, List.length_map] at h1; exact ⟨h1, h2.2⟩
    have HCP : Hid (∀ w' ya yc, Only (fun _ => False) w3 w' → ReadsG w' ya mm gs6 → Cp ya mm yc → (mm = 0 → ya = none ∧ yc = 0) → Calls Try.prog 10 #[.pointer (some ⟨p, 0, none⟩), .agg #[.int .i64 i, .int .i64 nd, .int .i64 num, .int .i64 dl, .slice ya mm yc]] w' fun e w2 => e = .returned (.int .i64 er) ∧ TRes S1 p pl (addK pl last K ⟨i, nd, num, dl, gs6⟩) (addL pl last K ⟨i, nd, num, dl, gs6⟩) w' w2) := Lib.hid (fun w' ya yc ho h1 h2 h3 => by
      have h := cadd_any p pl last v L i nd num dl ya mm yc gs6 w' (HT3.out.quiet ho).pt h1 h2 h3 hlen
      rw [HT3.out.e1, ← her] at h
      exact h)
    have HCD : Hid (∀ w', ReadsG w' xa mm gs6 → (∀ y, xa = some y → 0 < mm → ¬ S2 y.block ∧ y.block < w'.heap.size) → DT S2 w' q pl last v2 L2 → Calls Try.prog 34 #[.pointer (some ⟨q, 0, none⟩), .agg #[.int .i64 i, .int .i64 nd, .int .i64 num, .int .i64 dl, .slice xa mm xc]] w' fun e w2 => e = .returned (.int .i64 er) ∧ DRes S2 (DSet S2 xa w') q pl (addK pl last K ⟨i, nd, num, dl, gs6⟩) (addL pl last K ⟨i, nd, num, dl, gs6⟩) w' w2) := Lib.hid (fun w' h1 h2 hdt => by
      have h := radd_any q pl last v2 L2 i nd num dl xa mm xc gs6 w' hdt h1 HX.out.2.1 h2 hlen2
      rw [HT3.out.e2, ← her] at h
      exact h)
    have HOK : Hid (TOk pl (addK pl last K ⟨i, nd, num, dl, gs6⟩) (addL pl last K ⟨i, nd, num, dl, gs6⟩)) := Lib.hid (HT3.out.ok.add _)
    clear her hlen hlen2
    obtain ⟨q0, q1, q2, q3, q4⟩ := HC7.out
    go_wp2_with fail
    refine HTO.out.mono ?_
    rintro _ w4 ⟨ya, yc, rfl, hown, hya, hyz, ho4⟩
    have HGC := Lib.hid (Own5.gc (HX.out.1.1) hown hya hyz ho4)
    have HYZ := Lib.hid hyz
    have HOY := Lib.hid hown
    have HYB : Hid (∀ y, ya = some y → w3.heap.size ≤ y.block ∧ y.block < w4.heap.size) := Lib.hid (fun y e => HGC.out.2.2.1 y e)
    obtain ⟨w5, hw5⟩ : ∃ x, x = w4.alloc (.cells #[.int .i64 i, .int .i64 nd, .int .i64 num, .int .i64 dl, .slice ya mm yc] 25) := ⟨_, rfl⟩
    obtain ⟨g8, hg8⟩ : ∃ x, x = w4.heap.size := ⟨_, rfl⟩
    obtain ⟨d0, d1, d2, d3, d4, ho5⟩ := sbox hw5 hg8
    have HO45 := Lib.hid (ho4.trans ho5)
    have HG8 : Hid (w3.heap.size ≤ g8 ∧ g8 < w5.heap.size ∧ w4.heap.size ≤ g8) := Lib.hid ⟨by rw [hg8]; exact ho4.size, by rw [hw5, hg8, size_alloc]; omega, by omega⟩
    have HOY5 := Lib.hid (HOY.out.quiet ho5)
    have HD4 : Hid (w5.cell? ⟨g8, 4, none⟩ = some (.slice ya mm yc)) := Lib.hid d4
    have hS45 : w4.heap.size ≤ w5.heap.size := ho5.size
    have HS45 := Lib.hid hS45
    clear hS45
    have HAD := Lib.hid (HCP.out w5 ya yc HO45.out (HGC.out.1.quiet ho5) HGC.out.2.1 HYZ.out)
    clear hown hya hyz ho4 HTO
    go_upto_region 5 with fail
    simp only [← hw5, ← hg8]
    clear hw5 hg8 ho5 q0 q1 q2 q3 q4
    go_wp2_with fail
    refine HAD.out.mono ?_
    rintro _ w6 ⟨rfl, htr⟩
    have HTR := Lib.hid htr
    have hn8 : ¬ S1 g8 := fun s => by have h1 := (HT.out.d1 g8 s).2.1; have h2 := HG8.out.1; have h3 := HSZ.out; omega
    have HD6 : Hid (w6.cell? ⟨g8, 4, none⟩ = some (.slice ya mm yc)) := Lib.hid (htr.2.cell' HD4.out hn8)
    have HUN0 : Hid (∀ t, t < mm → ∃ (b : Nat) (z : Int), ya = some ⟨b, 0, none⟩ ∧ w6.cell? ⟨b, t * 4 + 1, none⟩ = some (.int .i64 z) ∧ w6.frozen? ⟨b, t * 4 + 1, none⟩ = false) := Lib.hid (fun t ht => by
      obtain ⟨b, z, hy, hz, hf⟩ := own_units HOY5.out HX.out.1.1 t ht
      have h1 := HYB.out _ hy
      have hnb : ¬ S1 b := fun s => by have h2 := (HT.out.d1 b s).2.1; have h3 := HSZ.out; have h4 : w3.heap.size ≤ b := h1.1; omega
      exact ⟨b, z, hy, htr.2.cell' hz hnb, (htr.2.frozen (p := ⟨b, t * 4 + 1, none⟩) (World.block_lt_of_cell? w5 _ hz) hnb).trans hf⟩)
    have HDT6 : Hid (∀ w', Only (fun x => ∃ y, ya = some y ∧ y.block = x) w6 w' → DT S2 w' q pl last v2 L2) := Lib.hid (fun w' ho => (((HT3.out.quiet HO45.out).dt.only htr.2 (fun x s e => (HT3.out.d1 x e).2.2 s))).only ho (fun x s e => by
      obtain ⟨y, hy, e2⟩ := e
      have h1 := HYB.out y hy
      have h2 := (HT.out.d2 x s).2
      have h3 := HSZ.out
      omega))
    have HRX6 : Hid (∀ w', Only (fun x => ∃ y, ya = some y ∧ y.block = x) w6 w' → ReadsG w' xa mm gs6 ∧ (∀ y, xa = some y → 0 < mm → ¬ S2 y.block ∧ y.block < w'.heap.size)) := Lib.hid (fun w' ho => by
      have hh : Only (fun x => S1 x ∨ w3.heap.size ≤ x) w3 w' := ((HO45.out.mono (fun _ _ f => f.elim)).then htr.2 (fun x _ s => .inl s)).then ho (fun x _ e => by obtain ⟨y, hy, e2⟩ := e; have h1 := HYB.out y hy; right; omega)
      refine ⟨HX.out.1.only hh (fun y e s => ?_), fun y e hn => ?_⟩
      · have h1 := HX.out.2.2 y e
        rcases s with s | s
        · have := (HT.out.d1 _ s).2.1; omega
        · omega
      · have h1 := HX.out.2.2 y e
        exact ⟨fun s => by have := (HT.out.d2 _ s).2; omega, Nat.lt_of_lt_of_le h1.2 hh.size⟩)
    have HK7 : Hid (∀ w', Only (fun x => ∃ y, ya = some y ∧ y.block = x) w6 w' → w'.cell? ⟨g7, 0, none⟩ = some (.int .i64 i) ∧ w'.cell? ⟨g7, 1, none⟩ = some (.int .i64 nd) ∧ w'.cell? ⟨g7, 2, none⟩ = some (.int .i64 num) ∧ w'.cell? ⟨g7, 3, none⟩ = some (.int .i64 dl) ∧ w'.cell? ⟨g7, 4, none⟩ = some (.slice xa mm xc)) := Lib.hid (fun w' ho => by
      have hh : Only (fun x => S1 x ∨ w3.heap.size ≤ x) w3 w' := ((HO45.out.mono (fun _ _ f => f.elim)).then htr.2 (fun x _ s => .inl s)).then ho (fun x _ e => by obtain ⟨y, hy, e2⟩ := e; have h1 := HYB.out y hy; right; omega)
      have hn : ¬ (S1 g7 ∨ w3.heap.size ≤ g7) := by
        have h1 := HG7.out
        rintro (s | s)
        · have := (HT.out.d1 g7 s).2.1; omega
        · omega
      exact ⟨hh.cell' HC7.out.1 hn, hh.cell' HC7.out.2.1 hn, hh.cell' HC7.out.2.2.1 hn, hh.cell' HC7.out.2.2.2.1 hn, hh.cell' HC7.out.2.2.2.2 hn⟩)
    have hm6 := HM6.out
    clear htr d0 d1 d2 d3 d4 hn8 HAD
    go_wp2_with fail
    go_loopw [10] (fun jv wx => ∃ j : Nat, j ≤ mm ∧ jv = .int .i64 (j : Int) ∧ Hid (∀ t, t < mm → ∃ (b : Nat) (z : Int), ya = some ⟨b, 0, none⟩ ∧ wx.cell? ⟨b, t * 4 + 1, none⟩ = some (.int .i64 z) ∧ wx.frozen? ⟨b, t * 4 + 1, none⟩ = false) ∧ Hid (Only (fun x => ∃ y, ya = some y ∧ y.block = x) w6 wx)) (fun jv _ => mm - (intOf jv).toNat)
    case atStart => exact ⟨0, by omega, rfl, HUN0, Lib.hid (Only.refl _ _)⟩
    case round =>
      obtain ⟨j, hj, rfl, HU, HO⟩ := hrel
      rename World => wx
      have hd8 := HO.out.cell' HD6.out (fun e => by obtain ⟨y, hy, e2⟩ := e; have h1 := HYB.out y hy; have h2 := HG8.out; have e2 : y.block = g8 := e2; omega)
      by_cases h8 : j < mm
      · have hj0 : (0 : Int) ≤ (j : Int) := by omega
        have hjm : (j : Int) < (mm : Int) := by omega
        have hwj : wrap64 ((j : Int) + 1) = (j : Int) + 1 := by unfold wrap64; omega
        obtain ⟨b, z, hyb, hz, hf⟩ := HU.out j h8
        have HUN : Hid (∀ zz : Int, ∀ t, t < mm → ∃ (b9 : Nat) (z : Int), ya = some ⟨b9, 0, none⟩ ∧ (wx.setCell ⟨b, j * 4 + 1, none⟩ (.int .i64 zz)).cell? ⟨b9, t * 4 + 1, none⟩ = some (.int .i64 z) ∧ (wx.setCell ⟨b, j * 4 + 1, none⟩ (.int .i64 zz)).frozen? ⟨b9, t * 4 + 1, none⟩ = false) := Lib.hid (fun zz t ht => by
          obtain ⟨b2, z2, hyb2, hz2, hf2⟩ := HU.out t ht
          rw [hyb] at hyb2
          injection hyb2 with e
          injection e with e
          subst e
          by_cases htj : t = j
          · subst htj
            exact ⟨b, zz, hyb, cell_same hz, frozen_set.trans hf⟩
          · exact ⟨b, z2, hyb, by rw [cell_other (addr_ne (by omega))]; exact hz2, frozen_set.trans hf2⟩)
        have HON : Hid (∀ zz : Int, Only (fun x => ∃ y, ya = some y ∧ y.block = x) w6 (wx.setCell ⟨b, j * 4 + 1, none⟩ (.int .i64 zz))) := Lib.hid (fun zz => HO.out.setCell (p := ⟨b, j * 4 + 1, none⟩) (.inl ⟨_, hyb, rfl⟩) _)
        subst hyb
        go_wp2_with fail
        go_roundw
        case rel => exact ⟨j + 1, by omega, by go_num, Lib.hid (HUN.out _), Lib.hid (HON.out _)⟩
        case measure => (simp [intOf]; omega)
      · obtain rfl : j = mm := by omega
        have hjm : ¬ (j : Int) < (j : Int) := by omega
        obtain ⟨q0, q1, q2, q3, q4⟩ := HK7.out wx HO.out
        have HDX := Lib.hid (HCD.out wx (HRX6.out wx HO.out).1 (HRX6.out wx HO.out).2 (HDT6.out wx HO.out))
        go_wp2_with fail
        refine HDX.out.mono ?_
        rintro _ w9 ⟨rfl, hdr⟩
        obtain ⟨hTB, hOT⟩ := TBs.step (a := xa) (na := 0) HT.out (HO3.out.trans HO45.out) HTR.out (HO.out.mono (fun x _ e => by
          obtain ⟨y, hy, e2⟩ := e
          have h1 := HYB.out y hy
          have h2 := HSZ.out
          have h3 := HG8.out
          omega)) hdr (fun y e => ⟨(HX.out.2.2 y e).1, Nat.lt_of_lt_of_le (HX.out.2.2 y e).2 HO45.out.size⟩) HOK.out
        have HTB := Lib.hid hTB
        have HEN : Hid (Only (fun x => base ≤ x) w w9) := Lib.hid (hOT.mono (fun x _ s => s.elim (fun s => (HT.out.d1 x s).1) (fun s => (HT.out.d2 x s).1)))
        clear hTB hOT hdr
        go_wp2_with fail
        go_ret
        exact ⟨by simp, ⟨_, _, HTB.out⟩, HEN.out⟩
  · have HKP : Hid (∀ w', Only (fun x => S1 x ∨ S2 x) w3 w' → w'.cell? ⟨g7, 0, none⟩ = some (.int .i64 i) ∧ w'.cell? ⟨g7, 1, none⟩ = some (.int .i64 nd) ∧ w'.cell? ⟨g7, 2, none⟩ = some (.int .i64 num) ∧ w'.cell? ⟨g7, 3, none⟩ = some (.int .i64 dl) ∧ w'.cell? ⟨g7, 4, none⟩ = some (.slice xa mm xc)) := Lib.hid (fun w' ho => by
      have hn : ¬ (S1 g7 ∨ S2 g7) := by
        have h1 := HG7.out.1
        rintro (s | s)
        · have := (HT.out.d1 g7 s).2.1; omega
        · have := (HT.out.d2 g7 s).2; omega
      exact ⟨ho.cell' HC7.out.1 hn, ho.cell' HC7.out.2.1 hn, ho.cell' HC7.out.2.2.1 hn, ho.cell' HC7.out.2.2.2.1 hn, ho.cell' HC7.out.2.2.2.2 hn⟩)
    have HKM : Hid (∀ w', Only (fun x => S1 x ∨ S2 x) w3 w' → w'.cell? ⟨g, 6, none⟩ = some (.int .i64 m)) := Lib.hid (fun w' ho => by
      have hn : ¬ (S1 g ∨ S2 g) := by
        have h1 := HGW.out
        rintro (s | s)
        · have := (HT.out.d1 g s).2.1; omega
        · have := (HT.out.d2 g s).2; omega
      exact ho.cell' HB3.out.2 hn)
    have HXK : Hid (∀ w', Only (fun x => S1 x ∨ S2 x) w3 w' → ReadsG w' xa mm gs6) := Lib.hid (fun w' ho => HX.out.1.only ho (fun y e s => by
      have h1 := (HX.out.2.2 y e).1
      rcases s with s | s
      · have := (HT.out.d1 _ s).2.1; omega
      · have := (HT.out.d2 _ s).2; omega))
    have HFR : Hid (∀ w', Only (fun x => S1 x ∨ S2 x) w3 w' → ∀ y, xa = some y → 0 < mm → ¬ S2 y.block ∧ y.block < w'.heap.size) := Lib.hid (fun w' ho y e hn => by
      have h1 := HX.out.2.2 y e
      have h2 := ho.size
      exact ⟨fun s => by have := (HT.out.d2 _ s).2; omega, by omega⟩)
    have HTO : Hid (∀ w', Only (fun _ => False) w3 w' → _) := Lib.hid (fun w' (ho : Only (fun _ => False) w3 w') => to_any i nd num dl xa mm xc gs6 w' (HX.out.1.quiet ho) HX.out.2.1 HN1.out)
    obtain ⟨er, her⟩ : ∃ x, x = setE K ⟨i, nd, num, dl, gs6⟩ := ⟨_, rfl⟩
    have HCP : Hid (∀ w' ya yc, Only (fun _ => False) w3 w' → ReadsG w' ya mm gs6 → Cp ya mm yc → (mm = 0 → ya = none ∧ yc = 0) → Calls Try.prog 11 #[.pointer (some ⟨p, 0, none⟩), .agg #[.int .i64 i, .int .i64 nd, .int .i64 num, .int .i64 dl, .slice ya mm yc]] w' fun e w2 => e = .returned (.int .i64 er) ∧ TRes S1 p pl last (setL K ⟨i, nd, num, dl, gs6⟩) w' w2) := Lib.hid (fun w' ya yc ho h1 h2 h3 => by
      have h := cset_any p pl last v L i nd num dl ya mm yc gs6 w' (HT3.out.quiet ho).pt h1 h2 h3
      rw [HT3.out.e1, ← her] at h
      exact h)
    have HCD : Hid (∀ w', Only (fun x => S1 x ∨ S2 x) w3 w' → DT S2 w' q pl last v2 L2 → Calls Try.prog 35 #[.pointer (some ⟨q, 0, none⟩), .agg #[.int .i64 i, .int .i64 nd, .int .i64 num, .int .i64 dl, .slice xa mm xc]] w' fun e w2 => e = .returned (.int .i64 er) ∧ DRes S2 (DSet S2 xa w') q pl last (setL K ⟨i, nd, num, dl, gs6⟩) w' w2) := Lib.hid (fun w' ho hdt => by
      have h := rset_any q pl last v2 L2 i nd num dl xa mm xc gs6 w' hdt (HXK.out w' ho) HX.out.2.1 (HFR.out w' ho)
      rw [HT3.out.e2, ← her] at h
      exact h)
    have HOK : Hid (TOk pl last (setL K ⟨i, nd, num, dl, gs6⟩)) := Lib.hid (HT3.out.ok.set _)
    clear her
    have HDT : Hid (∀ w' : World, Only (fun x => S1 x ∨ S2 x) w3 w' → ∀ {wa : World}, Only S1 wa w' → Only (fun _ => False) w3 wa → DT S2 w' q pl last v2 L2) := Lib.hid (fun w' _ {wa} h1 h0 => (HT3.out.quiet h0).dt.only h1 (fun x s e => (HT3.out.d1 x e).2.2 s))
    go_upto_region 12 with fail
    clear b0
    refine wp_region_noPanic ?_
    refine wp_region_held_drew (S := (fun w' => w'.cell? ⟨g7, 0, none⟩ = some (.int .i64 i) ∧ w'.cell? ⟨g7, 1, none⟩ = some (.int .i64 nd) ∧ w'.cell? ⟨g7, 2, none⟩ = some (.int .i64 num) ∧ w'.cell? ⟨g7, 3, none⟩ = some (.int .i64 dl) ∧ w'.cell? ⟨g7, 4, none⟩ = some (.slice xa mm xc))) (by kernel_rfl) (HKP.out _ ((Only.refl (fun _ => False) _).drew.mono (fun _ _ f => f.elim))) (fun hHeld => ?_)
    obtain ⟨y0, hy0⟩ : ∃ x, x = w3.drew := ⟨_, rfl⟩
    rw [← hy0] at hHeld ⊢
    have hot : Hid (Only (fun _ => False) w3 y0) := Lib.hid (by rw [hy0]; exact (Only.refl _ _).drew)
    clear hy0
    refine wpAnyH_take (i := 0) (v := ?_) rfl (by kernel_rfl) (by kernel_rfl) (by kernel_rfl) (fun _ _ _ h => h) (Or.inl ⟨by rfl, ?_⟩) (by assumption) ?_
    rotate_left 1
    · intro w' hSw
      try dsimp only at hSw
      go_simp
      try with_reducible rfl
    try simp only [List.getElem_toArray, List.getElem_cons_zero, Act.put, List.setIfInBounds_toArray, List.set_cons_zero, List.set_cons_succ]
    refine wpAnyH_take (i := 1) (v := ?_) rfl (by kernel_rfl) (by kernel_rfl) (by kernel_rfl) (fun _ _ _ h => h) (Or.inl ⟨by rfl, ?_⟩) (by assumption) ?_
    rotate_left 1
    · intro w' hSw
      try dsimp only at hSw
      go_simp
      try with_reducible rfl
    try simp only [List.getElem_toArray, List.getElem_cons_zero, List.getElem_cons_succ, Act.put, List.setIfInBounds_toArray, List.set_cons_zero, List.set_cons_succ]
    refine wpAnyH_take (i := 4) (v := ?_) rfl (by kernel_rfl) (by kernel_rfl) (by kernel_rfl) (fun _ _ _ h => h) (Or.inl ⟨by rfl, ?_⟩) (by assumption) ?_
    rotate_left 1
    · intro w' hSw
      try dsimp only at hSw
      go_simp
      try with_reducible rfl
    try simp only [List.getElem_toArray, List.getElem_cons_zero, List.getElem_cons_succ, Act.put, List.setIfInBounds_toArray, List.set_cons_zero, List.set_cons_succ]
    refine wpAnyH_take (i := 5) (v := ?_) rfl (by kernel_rfl) (by kernel_rfl) (by kernel_rfl) (fun _ _ _ h => h) (Or.inl ⟨by rfl, ?_⟩) (by assumption) ?_
    rotate_left 1
    · intro w' hSw
      try dsimp only at hSw
      go_simp
      try with_reducible rfl
    try simp only [List.getElem_toArray, List.getElem_cons_zero, List.getElem_cons_succ, Act.put, List.setIfInBounds_toArray, List.set_cons_zero, List.set_cons_succ]
    refine wpAnyH_ready (rs := [2]) (by kernel_rfl) (by simp) ?_
    refine AllReadyH.cons rfl (fun K hK => ?_) AllReadyH.nil
    try simp only [List.getElem_toArray, List.getElem_cons_zero, List.getElem_cons_succ]
    go_simp
    go_at_call 33
    with_reducible refine (HTO.out _ hot.out).mono ?_
    rintro _ W1 ⟨ya, yc, rfl, hown, hya, hyz, ho⟩
    have hgc0 := Own5.gc (HX.out.1.1) hown hya hyz ho
    have HGC : Hid (ReadsG W1 ya mm gs6 ∧ Cp ya mm yc) := Lib.hid ⟨hgc0.1, hgc0.2.1⟩
    have HYZ := Lib.hid hyz
    clear hgc0
    replace hot := Lib.hid (hot.out.trans ho)
    clear hown hya hyz ho
    try dsimp only
    refine hK.out _ _ (HKP.out _ (hot.out.mono (fun _ _ f => f.elim))) (fun hHeld1 => ?_)
    clear hK K
    try simp only [List.getElem_toArray, List.getElem_cons_zero, List.getElem_cons_succ, Act.put, List.setIfInBounds_toArray, List.set_cons_zero, List.set_cons_succ]
    refine wpAnyH_ready (rs := [3]) (by kernel_rfl) (by simp) ?_
    refine AllReadyH.cons rfl (fun K hK => ?_) AllReadyH.nil
    try simp only [List.getElem_toArray, List.getElem_cons_zero, List.getElem_cons_succ]
    go_simp
    go_at_call 11
    with_reducible refine (HCP.out _ ya yc hot.out HGC.out.1 HGC.out.2 HYZ.out).mono ?_
    rintro _ W2 ⟨rfl, htr⟩
    have HTR := Lib.hid htr
    have HT2 : Hid (Only S1 W1 W2) := Lib.hid htr.2
    have HOA := Lib.hid hot.out
    have hot2 : Hid (Only (fun x => S1 x ∨ S2 x) w3 W2) := Lib.hid ((hot.out.mono (fun _ _ f => f.elim)).trans (htr.2.mono (fun _ _ s => .inl s)))
    clear htr
    try dsimp only
    refine hK.out _ _ (HKP.out _ hot2.out) (fun hHeld2 => ?_)
    clear hK K
    try simp only [List.getElem_toArray, List.getElem_cons_zero, List.getElem_cons_succ, Act.put, List.setIfInBounds_toArray, List.set_cons_zero, List.set_cons_succ]
    refine wpAnyH_ready (rs := [6]) (by kernel_rfl) (by simp) ?_
    refine AllReadyH.cons rfl (fun K hK => ?_) AllReadyH.nil
    try simp only [List.getElem_toArray, List.getElem_cons_zero, List.getElem_cons_succ]
    go_simp
    go_at_call 35
    with_reducible refine (HCD.out _ hot2.out (HDT.out _ hot2.out HT2.out HOA.out)).mono ?_
    rintro _ W3 ⟨rfl, hdr⟩
    have HDR := Lib.hid hdr
    have hot3 : Hid (Only (fun x => S1 x ∨ S2 x) w3 W3) := Lib.hid (hot2.out.trans (hdr.2.mono (fun _ _ s => .inr s)))
    clear hdr
    try dsimp only
    refine hK.out _ _ (HKP.out _ hot3.out) (fun hHeld3 => ?_)
    clear hK K
    try simp only [List.getElem_toArray, List.getElem_cons_zero, List.getElem_cons_succ, Act.put, List.setIfInBounds_toArray, List.set_cons_zero, List.set_cons_succ]
    refine wpAnyH_take (i := 7) (v := ?_) rfl (by kernel_rfl) (by kernel_rfl) (by kernel_rfl) (fun _ _ _ h => h) (Or.inl ⟨by rfl, ?_⟩) (by assumption) ?_
    rotate_left 1
    · intro w' hSw
      try dsimp only at hSw
      go_simp
      try with_reducible rfl
    try simp only [List.getElem_toArray, List.getElem_cons_zero, List.getElem_cons_succ, Act.put, List.setIfInBounds_toArray, List.set_cons_zero, List.set_cons_succ]
    refine wpAnyH_take (i := 8) (v := ?_) rfl (by kernel_rfl) (by kernel_rfl) (by kernel_rfl) (fun _ _ _ h => h) (Or.inl ⟨by rfl, ?_⟩) (by assumption) ?_
    rotate_left 1
    · intro w' hSw
      try dsimp only at hSw
      go_simp
      try with_reducible rfl
    try simp only [List.getElem_toArray, List.getElem_cons_zero, List.getElem_cons_succ, Act.put, List.setIfInBounds_toArray, List.set_cons_zero, List.set_cons_succ]
    refine wpAnyH_done (by kernel_rfl) ?_ _
    refine NoPanic.normal ?_
    obtain ⟨hTB, hOT⟩ := TBs.step (a := xa) (na := 0) HT.out (HO3.out.trans HOA.out) HTR.out (Only.refl _ _) HDR.out (fun y e => ⟨(HX.out.2.2 y e).1, Nat.lt_of_lt_of_le (HX.out.2.2 y e).2 HOA.out.size⟩) HOK.out
    have HTB := Lib.hid hTB
    have HEN : Hid (Only (fun x => base ≤ x) w W3) := Lib.hid (hOT.mono (fun x _ s => s.elim (fun s => (HT.out.d1 x s).1) (fun s => (HT.out.d2 x s).1)))
    clear hTB hOT
    go_wp2_with fail
    go_ret
    exact ⟨by simp, ⟨_, _, HTB.out⟩, HEN.out⟩
  · have HKP : Hid (∀ w', Only (fun x => S1 x ∨ S2 x) w3 w' → w'.cell? ⟨g7, 0, none⟩ = some (.int .i64 i) ∧ w'.cell? ⟨g7, 1, none⟩ = some (.int .i64 nd) ∧ w'.cell? ⟨g7, 2, none⟩ = some (.int .i64 num) ∧ w'.cell? ⟨g7, 3, none⟩ = some (.int .i64 dl) ∧ w'.cell? ⟨g7, 4, none⟩ = some (.slice xa mm xc)) := Lib.hid (fun w' ho => by
      have hn : ¬ (S1 g7 ∨ S2 g7) := by
        have h1 := HG7.out.1
        rintro (s | s)
        · have := (HT.out.d1 g7 s).2.1; omega
        · have := (HT.out.d2 g7 s).2; omega
      exact ⟨ho.cell' HC7.out.1 hn, ho.cell' HC7.out.2.1 hn, ho.cell' HC7.out.2.2.1 hn, ho.cell' HC7.out.2.2.2.1 hn, ho.cell' HC7.out.2.2.2.2 hn⟩)
    have HKM : Hid (∀ w', Only (fun x => S1 x ∨ S2 x) w3 w' → w'.cell? ⟨g, 6, none⟩ = some (.int .i64 m)) := Lib.hid (fun w' ho => by
      have hn : ¬ (S1 g ∨ S2 g) := by
        have h1 := HGW.out
        rintro (s | s)
        · have := (HT.out.d1 g s).2.1; omega
        · have := (HT.out.d2 g s).2; omega
      exact ho.cell' HB3.out.2 hn)
    have HXK : Hid (∀ w', Only (fun x => S1 x ∨ S2 x) w3 w' → ReadsG w' xa mm gs6) := Lib.hid (fun w' ho => HX.out.1.only ho (fun y e s => by
      have h1 := (HX.out.2.2 y e).1
      rcases s with s | s
      · have := (HT.out.d1 _ s).2.1; omega
      · have := (HT.out.d2 _ s).2; omega))
    have HFR : Hid (∀ w', Only (fun x => S1 x ∨ S2 x) w3 w' → ∀ y, xa = some y → 0 < mm → ¬ S2 y.block ∧ y.block < w'.heap.size) := Lib.hid (fun w' ho y e hn => by
      have h1 := HX.out.2.2 y e
      have h2 := ho.size
      exact ⟨fun s => by have := (HT.out.d2 _ s).2; omega, by omega⟩)
    have HDT : Hid (∀ w' : World, Only (fun x => S1 x ∨ S2 x) w3 w' → ∀ {wa : World}, Only S1 wa w' → Only (fun _ => False) w3 wa → DT S2 w' q pl last v2 L2) := Lib.hid (fun w' _ {wa} h1 h0 => (HT3.out.quiet h0).dt.only h1 (fun x s e => (HT3.out.d1 x e).2.2 s))
    obtain ⟨er, her⟩ : ∃ x, x = endE K i := ⟨_, rfl⟩
    have HCP : Hid (∀ w', Only (fun _ => False) w3 w' → Calls Try.prog 12 #[.pointer (some ⟨p, 0, none⟩), .int .i64 i] w' fun e w2 => e = .returned (.int .i64 er) ∧ TRes S1 p pl last (endL K i) w' w2) := Lib.hid (fun w' ho => by
      have h := cend_any p pl last v L i w' (HT3.out.quiet ho).pt
      rw [HT3.out.e1, ← her] at h
      exact h)
    have HCD : Hid (∀ w', Only (fun x => S1 x ∨ S2 x) w3 w' → DT S2 w' q pl last v2 L2 → Calls Try.prog 36 #[.pointer (some ⟨q, 0, none⟩), .int .i64 i] w' fun e w2 => e = .returned (.int .i64 er) ∧ DRes S2 (DSet S2 none w') q pl last (endL K i) w' w2) := Lib.hid (fun w' ho hdt => by
      have h := rend_any q pl last v2 L2 i w' hdt
      rw [HT3.out.e2, ← her] at h
      exact h)
    have HOK : Hid (TOk pl last (endL K i)) := Lib.hid (HT3.out.ok.fin _)
    clear her
    go_upto_region 14 with fail
    clear b0
    refine wp_region_noPanic ?_
    refine wp_region_held_drew (S := (fun w' => w'.cell? ⟨g7, 0, none⟩ = some (.int .i64 i) ∧ w'.cell? ⟨g7, 1, none⟩ = some (.int .i64 nd) ∧ w'.cell? ⟨g7, 2, none⟩ = some (.int .i64 num) ∧ w'.cell? ⟨g7, 3, none⟩ = some (.int .i64 dl) ∧ w'.cell? ⟨g7, 4, none⟩ = some (.slice xa mm xc))) (by kernel_rfl) (HKP.out _ ((Only.refl (fun _ => False) _).drew.mono (fun _ _ f => f.elim))) (fun hHeld => ?_)
    obtain ⟨y0, hy0⟩ : ∃ x, x = w3.drew := ⟨_, rfl⟩
    rw [← hy0] at hHeld ⊢
    have hot : Hid (Only (fun _ => False) w3 y0) := Lib.hid (by rw [hy0]; exact (Only.refl _ _).drew)
    clear hy0
    refine wpAnyH_take (i := 0) (v := ?_) rfl (by kernel_rfl) (by kernel_rfl) (by kernel_rfl) (fun _ _ _ h => h) (Or.inl ⟨by rfl, ?_⟩) (by assumption) ?_
    rotate_left 1
    · intro w' hSw
      try dsimp only at hSw
      go_simp
      try with_reducible rfl
    try simp only [List.getElem_toArray, List.getElem_cons_zero, Act.put, List.setIfInBounds_toArray, List.set_cons_zero, List.set_cons_succ]
    refine wpAnyH_take (i := 1) (v := ?_) rfl (by kernel_rfl) (by kernel_rfl) (by kernel_rfl) (fun _ _ _ h => h) (Or.inl ⟨by rfl, ?_⟩) (by assumption) ?_
    rotate_left 1
    · intro w' hSw
      try dsimp only at hSw
      go_simp
      try with_reducible rfl
    try simp only [List.getElem_toArray, List.getElem_cons_zero, List.getElem_cons_succ, Act.put, List.setIfInBounds_toArray, List.set_cons_zero, List.set_cons_succ]
    refine wpAnyH_take (i := 2) (v := ?_) rfl (by kernel_rfl) (by kernel_rfl) (by kernel_rfl) (fun _ _ _ h => h) (Or.inl ⟨by rfl, ?_⟩) (by assumption) ?_
    rotate_left 1
    · intro w' hSw
      try dsimp only at hSw
      go_simp
      try with_reducible rfl
    try simp only [List.getElem_toArray, List.getElem_cons_zero, List.getElem_cons_succ, Act.put, List.setIfInBounds_toArray, List.set_cons_zero, List.set_cons_succ]
    refine wpAnyH_take (i := 4) (v := ?_) rfl (by kernel_rfl) (by kernel_rfl) (by kernel_rfl) (fun _ _ _ h => h) (Or.inl ⟨by rfl, ?_⟩) (by assumption) ?_
    rotate_left 1
    · intro w' hSw
      try dsimp only at hSw
      go_simp
      try with_reducible rfl
    try simp only [List.getElem_toArray, List.getElem_cons_zero, List.getElem_cons_succ, Act.put, List.setIfInBounds_toArray, List.set_cons_zero, List.set_cons_succ]
    refine wpAnyH_take (i := 5) (v := ?_) rfl (by kernel_rfl) (by kernel_rfl) (by kernel_rfl) (fun _ _ _ h => h) (Or.inl ⟨by rfl, ?_⟩) (by assumption) ?_
    rotate_left 1
    · intro w' hSw
      try dsimp only at hSw
      go_simp
      try with_reducible rfl
    try simp only [List.getElem_toArray, List.getElem_cons_zero, List.getElem_cons_succ, Act.put, List.setIfInBounds_toArray, List.set_cons_zero, List.set_cons_succ]
    refine wpAnyH_take (i := 6) (v := ?_) rfl (by kernel_rfl) (by kernel_rfl) (by kernel_rfl) (fun _ _ _ h => h) (Or.inl ⟨by rfl, ?_⟩) (by assumption) ?_
    rotate_left 1
    · intro w' hSw
      try dsimp only at hSw
      go_simp
      try with_reducible rfl
    try simp only [List.getElem_toArray, List.getElem_cons_zero, List.getElem_cons_succ, Act.put, List.setIfInBounds_toArray, List.set_cons_zero, List.set_cons_succ]
    refine wpAnyH_ready (rs := [3]) (by kernel_rfl) (by simp) ?_
    refine AllReadyH.cons rfl (fun K hK => ?_) AllReadyH.nil
    try simp only [List.getElem_toArray, List.getElem_cons_zero, List.getElem_cons_succ]
    go_simp
    go_at_call 12
    with_reducible refine (HCP.out _ hot.out).mono ?_
    rintro _ W1 ⟨rfl, htr⟩
    have HTR := Lib.hid htr
    have HT2 : Hid (Only S1 y0 W1) := Lib.hid htr.2
    have HOA := Lib.hid hot.out
    have hot2 : Hid (Only (fun x => S1 x ∨ S2 x) w3 W1) := Lib.hid ((hot.out.mono (fun _ _ f => f.elim)).trans (htr.2.mono (fun _ _ s => .inl s)))
    clear htr
    try dsimp only
    refine hK.out _ _ (HKP.out _ hot2.out) (fun hHeld1 => ?_)
    clear hK K
    try simp only [List.getElem_toArray, List.getElem_cons_zero, List.getElem_cons_succ, Act.put, List.setIfInBounds_toArray, List.set_cons_zero, List.set_cons_succ]
    refine wpAnyH_ready (rs := [7]) (by kernel_rfl) (by simp) ?_
    refine AllReadyH.cons rfl (fun K hK => ?_) AllReadyH.nil
    try simp only [List.getElem_toArray, List.getElem_cons_zero, List.getElem_cons_succ]
    go_simp
    go_at_call 36
    with_reducible refine (HCD.out _ hot2.out (HDT.out _ hot2.out HT2.out HOA.out)).mono ?_
    rintro _ W2 ⟨rfl, hdr⟩
    have HDR := Lib.hid hdr
    have hot3 : Hid (Only (fun x => S1 x ∨ S2 x) w3 W2) := Lib.hid (hot2.out.trans (hdr.2.mono (fun _ _ s => .inr s)))
    clear hdr
    try dsimp only
    refine hK.out _ _ (HKP.out _ hot3.out) (fun hHeld2 => ?_)
    clear hK K
    try simp only [List.getElem_toArray, List.getElem_cons_zero, List.getElem_cons_succ, Act.put, List.setIfInBounds_toArray, List.set_cons_zero, List.set_cons_succ]
    refine wpAnyH_take (i := 8) (v := ?_) rfl (by kernel_rfl) (by kernel_rfl) (by kernel_rfl) (fun _ _ _ h => h) (Or.inl ⟨by rfl, ?_⟩) (by assumption) ?_
    rotate_left 1
    · intro w' hSw
      try dsimp only at hSw
      go_simp
      try with_reducible rfl
    try simp only [List.getElem_toArray, List.getElem_cons_zero, List.getElem_cons_succ, Act.put, List.setIfInBounds_toArray, List.set_cons_zero, List.set_cons_succ]
    refine wpAnyH_take (i := 9) (v := ?_) rfl (by kernel_rfl) (by kernel_rfl) (by kernel_rfl) (fun _ _ _ h => h) (Or.inl ⟨by rfl, ?_⟩) (by assumption) ?_
    rotate_left 1
    · intro w' hSw
      try dsimp only at hSw
      go_simp
      try with_reducible rfl
    try simp only [List.getElem_toArray, List.getElem_cons_zero, List.getElem_cons_succ, Act.put, List.setIfInBounds_toArray, List.set_cons_zero, List.set_cons_succ]
    refine wpAnyH_done (by kernel_rfl) ?_ _
    refine NoPanic.normal ?_
    obtain ⟨hTB, hOT⟩ := TBs.step (a := none) (na := 0) HT.out (HO3.out.trans HOA.out) HTR.out (Only.refl _ _) HDR.out (fun y e => by cases e) HOK.out
    have HTB := Lib.hid hTB
    have HEN : Hid (Only (fun x => base ≤ x) w W2) := Lib.hid (hOT.mono (fun x _ s => s.elim (fun s => (HT.out.d1 x s).1) (fun s => (HT.out.d2 x s).1)))
    clear hTB hOT
    go_wp2_with fail
    go_ret
    exact ⟨by simp, ⟨_, _, HTB.out⟩, HEN.out⟩
  · have HKP : Hid (∀ w', Only (fun x => S1 x ∨ S2 x) w3 w' → w'.cell? ⟨g7, 0, none⟩ = some (.int .i64 i) ∧ w'.cell? ⟨g7, 1, none⟩ = some (.int .i64 nd) ∧ w'.cell? ⟨g7, 2, none⟩ = some (.int .i64 num) ∧ w'.cell? ⟨g7, 3, none⟩ = some (.int .i64 dl) ∧ w'.cell? ⟨g7, 4, none⟩ = some (.slice xa mm xc)) := Lib.hid (fun w' ho => by
      have hn : ¬ (S1 g7 ∨ S2 g7) := by
        have h1 := HG7.out.1
        rintro (s | s)
        · have := (HT.out.d1 g7 s).2.1; omega
        · have := (HT.out.d2 g7 s).2; omega
      exact ⟨ho.cell' HC7.out.1 hn, ho.cell' HC7.out.2.1 hn, ho.cell' HC7.out.2.2.1 hn, ho.cell' HC7.out.2.2.2.1 hn, ho.cell' HC7.out.2.2.2.2 hn⟩)
    have HKM : Hid (∀ w', Only (fun x => S1 x ∨ S2 x) w3 w' → w'.cell? ⟨g, 6, none⟩ = some (.int .i64 m)) := Lib.hid (fun w' ho => by
      have hn : ¬ (S1 g ∨ S2 g) := by
        have h1 := HGW.out
        rintro (s | s)
        · have := (HT.out.d1 g s).2.1; omega
        · have := (HT.out.d2 g s).2; omega
      exact ho.cell' HB3.out.2 hn)
    have HXK : Hid (∀ w', Only (fun x => S1 x ∨ S2 x) w3 w' → ReadsG w' xa mm gs6) := Lib.hid (fun w' ho => HX.out.1.only ho (fun y e s => by
      have h1 := (HX.out.2.2 y e).1
      rcases s with s | s
      · have := (HT.out.d1 _ s).2.1; omega
      · have := (HT.out.d2 _ s).2; omega))
    have HFR : Hid (∀ w', Only (fun x => S1 x ∨ S2 x) w3 w' → ∀ y, xa = some y → 0 < mm → ¬ S2 y.block ∧ y.block < w'.heap.size) := Lib.hid (fun w' ho y e hn => by
      have h1 := HX.out.2.2 y e
      have h2 := ho.size
      exact ⟨fun s => by have := (HT.out.d2 _ s).2; omega, by omega⟩)
    obtain ⟨er, her⟩ : ∃ x, x = stepE K i m := ⟨_, rfl⟩
    have HNM : Hid (∀ (L : List Sd), L.map Sd.sx = K → ∀ x ∈ L, x.num ≤ 4611686018427387904 ∧ 0 ≤ x.num) := Lib.hid (fun L e x hx => by
      have h1 := (HT3.out.ok.rt x.sx (by rw [← e]; exact List.mem_map.2 ⟨x, hx, rfl⟩)).1
      have h2 := ((rightB_iff _).1 h1).2.2.2.2.1
      exact ⟨h2.2, h2.1⟩)
    have HCP : Hid (∀ w', Only (fun _ => False) w3 w' → Calls Try.prog 13 #[.pointer (some ⟨p, 0, none⟩), .int .i64 i, .int .i64 m] w' fun e w2 => e = .returned (.int .i64 er) ∧ Only (fun _ => False) w' w2) := Lib.hid (fun w' ho => by
      have h := cstep_any p pl last v L i m w' (HT3.out.quiet ho).pt (HNM.out L HT3.out.e1)
      rw [HT3.out.e1, ← her] at h
      exact h)
    have HCD : Hid (∀ w', Only (fun _ => False) w3 w' → Calls Try.prog 37 #[.pointer (some ⟨q, 0, none⟩), .int .i64 i, .int .i64 m] w' fun e w2 => e = .returned (.int .i64 er) ∧ w' = w2) := Lib.hid (fun w' ho => by
      have h := rstep_any q pl last v2 L2 i m w' (HT3.out.quiet ho).dt (HNM.out L2 HT3.out.e2)
      rw [HT3.out.e2, ← her] at h
      exact h)
    clear her
    go_upto_region 15 with fail
    clear b0
    refine wp_region_noPanic ?_
    refine wp_region_held_drew (S := (fun w' => w'.cell? ⟨g7, 0, none⟩ = some (.int .i64 i) ∧ w'.cell? ⟨g7, 1, none⟩ = some (.int .i64 nd) ∧ w'.cell? ⟨g7, 2, none⟩ = some (.int .i64 num) ∧ w'.cell? ⟨g7, 3, none⟩ = some (.int .i64 dl) ∧ w'.cell? ⟨g7, 4, none⟩ = some (.slice xa mm xc) ∧ w'.cell? ⟨g, 6, none⟩ = some (.int .i64 m))) (by kernel_rfl) ((by have h := HKP.out _ ((Only.refl (fun _ => False) _).drew.mono (fun _ _ f => f.elim)); exact ⟨h.1, h.2.1, h.2.2.1, h.2.2.2.1, h.2.2.2.2, HKM.out _ ((Only.refl (fun _ => False) _).drew.mono (fun _ _ f => f.elim))⟩)) (fun hHeld => ?_)
    obtain ⟨y0, hy0⟩ : ∃ x, x = w3.drew := ⟨_, rfl⟩
    rw [← hy0] at hHeld ⊢
    have hot : Hid (Only (fun _ => False) w3 y0) := Lib.hid (by rw [hy0]; exact (Only.refl _ _).drew)
    clear hy0
    refine wpAnyH_take (i := 0) (v := ?_) rfl (by kernel_rfl) (by kernel_rfl) (by kernel_rfl) (fun _ _ _ h => h) (Or.inl ⟨by rfl, ?_⟩) (by assumption) ?_
    rotate_left 1
    · intro w' hSw
      try dsimp only at hSw
      go_simp
      try with_reducible rfl
    try simp only [List.getElem_toArray, List.getElem_cons_zero, Act.put, List.setIfInBounds_toArray, List.set_cons_zero, List.set_cons_succ]
    refine wpAnyH_take (i := 1) (v := ?_) rfl (by kernel_rfl) (by kernel_rfl) (by kernel_rfl) (fun _ _ _ h => h) (Or.inl ⟨by rfl, ?_⟩) (by assumption) ?_
    rotate_left 1
    · intro w' hSw
      try dsimp only at hSw
      go_simp
      try with_reducible rfl
    try simp only [List.getElem_toArray, List.getElem_cons_zero, List.getElem_cons_succ, Act.put, List.setIfInBounds_toArray, List.set_cons_zero, List.set_cons_succ]
    refine wpAnyH_take (i := 2) (v := ?_) rfl (by kernel_rfl) (by kernel_rfl) (by kernel_rfl) (fun _ _ _ h => h) (Or.inl ⟨by rfl, ?_⟩) (by assumption) ?_
    rotate_left 1
    · intro w' hSw
      try dsimp only at hSw
      go_simp
      try with_reducible rfl
    try simp only [List.getElem_toArray, List.getElem_cons_zero, List.getElem_cons_succ, Act.put, List.setIfInBounds_toArray, List.set_cons_zero, List.set_cons_succ]
    refine wpAnyH_take (i := 3) (v := ?_) rfl (by kernel_rfl) (by kernel_rfl) (by kernel_rfl) (fun _ _ _ h => h) (Or.inl ⟨by rfl, ?_⟩) (by assumption) ?_
    rotate_left 1
    · intro w' hSw
      try dsimp only at hSw
      go_simp
      try with_reducible rfl
    try simp only [List.getElem_toArray, List.getElem_cons_zero, List.getElem_cons_succ, Act.put, List.setIfInBounds_toArray, List.set_cons_zero, List.set_cons_succ]
    refine wpAnyH_take (i := 4) (v := ?_) rfl (by kernel_rfl) (by kernel_rfl) (by kernel_rfl) (fun _ _ _ h => h) (Or.inl ⟨by rfl, ?_⟩) (by assumption) ?_
    rotate_left 1
    · intro w' hSw
      try dsimp only at hSw
      go_simp
      try with_reducible rfl
    try simp only [List.getElem_toArray, List.getElem_cons_zero, List.getElem_cons_succ, Act.put, List.setIfInBounds_toArray, List.set_cons_zero, List.set_cons_succ]
    refine wpAnyH_take (i := 6) (v := ?_) rfl (by kernel_rfl) (by kernel_rfl) (by kernel_rfl) (fun _ _ _ h => h) (Or.inl ⟨by rfl, ?_⟩) (by assumption) ?_
    rotate_left 1
    · intro w' hSw
      try dsimp only at hSw
      go_simp
      try with_reducible rfl
    try simp only [List.getElem_toArray, List.getElem_cons_zero, List.getElem_cons_succ, Act.put, List.setIfInBounds_toArray, List.set_cons_zero, List.set_cons_succ]
    refine wpAnyH_take (i := 7) (v := ?_) rfl (by kernel_rfl) (by kernel_rfl) (by kernel_rfl) (fun _ _ _ h => h) (Or.inl ⟨by rfl, ?_⟩) (by assumption) ?_
    rotate_left 1
    · intro w' hSw
      try dsimp only at hSw
      go_simp
      try with_reducible rfl
    try simp only [List.getElem_toArray, List.getElem_cons_zero, List.getElem_cons_succ, Act.put, List.setIfInBounds_toArray, List.set_cons_zero, List.set_cons_succ]
    refine wpAnyH_take (i := 8) (v := ?_) rfl (by kernel_rfl) (by kernel_rfl) (by kernel_rfl) (fun _ _ _ h => h) (Or.inl ⟨by rfl, ?_⟩) (by assumption) ?_
    rotate_left 1
    · intro w' hSw
      try dsimp only at hSw
      go_simp
      try with_reducible rfl
    try simp only [List.getElem_toArray, List.getElem_cons_zero, List.getElem_cons_succ, Act.put, List.setIfInBounds_toArray, List.set_cons_zero, List.set_cons_succ]
    refine wpAnyH_take (i := 9) (v := ?_) rfl (by kernel_rfl) (by kernel_rfl) (by kernel_rfl) (fun _ _ _ h => h) (Or.inl ⟨by rfl, ?_⟩) (by assumption) ?_
    rotate_left 1
    · intro w' hSw
      try dsimp only at hSw
      go_simp
      try with_reducible rfl
    try simp only [List.getElem_toArray, List.getElem_cons_zero, List.getElem_cons_succ, Act.put, List.setIfInBounds_toArray, List.set_cons_zero, List.set_cons_succ]
    refine wpAnyH_take (i := 10) (v := ?_) rfl (by kernel_rfl) (by kernel_rfl) (by kernel_rfl) (fun _ _ _ h => h) (Or.inl ⟨by rfl, ?_⟩) (by assumption) ?_
    rotate_left 1
    · intro w' hSw
      try dsimp only at hSw
      go_simp
      try with_reducible rfl
    try simp only [List.getElem_toArray, List.getElem_cons_zero, List.getElem_cons_succ, Act.put, List.setIfInBounds_toArray, List.set_cons_zero, List.set_cons_succ]
    refine wpAnyH_ready (rs := [5]) (by kernel_rfl) (by simp) ?_
    refine AllReadyH.cons rfl (fun K hK => ?_) AllReadyH.nil
    try simp only [List.getElem_toArray, List.getElem_cons_zero, List.getElem_cons_succ]
    go_simp
    go_at_call 13
    with_reducible refine (HCP.out _ hot.out).mono ?_
    rintro _ W1 ⟨rfl, ho⟩
    replace hot := Lib.hid (hot.out.trans ho)
    clear ho
    try dsimp only
    refine hK.out _ _ ((by have h := HKP.out _ (hot.out.mono (fun _ _ f => f.elim)); exact ⟨h.1, h.2.1, h.2.2.1, h.2.2.2.1, h.2.2.2.2, HKM.out _ (hot.out.mono (fun _ _ f => f.elim))⟩)) (fun hHeld1 => ?_)
    clear hK K
    try simp only [List.getElem_toArray, List.getElem_cons_zero, List.getElem_cons_succ, Act.put, List.setIfInBounds_toArray, List.set_cons_zero, List.set_cons_succ]
    refine wpAnyH_ready (rs := [11]) (by kernel_rfl) (by simp) ?_
    refine AllReadyH.cons rfl (fun K hK => ?_) AllReadyH.nil
    try simp only [List.getElem_toArray, List.getElem_cons_zero, List.getElem_cons_succ]
    go_simp
    go_at_call 37
    with_reducible refine (HCD.out _ hot.out).mono ?_
    rintro _ W2 ⟨rfl, hw⟩
    subst hw
    try dsimp only
    refine hK.out _ _ ((by have h := HKP.out _ (hot.out.mono (fun _ _ f => f.elim)); exact ⟨h.1, h.2.1, h.2.2.1, h.2.2.2.1, h.2.2.2.2, HKM.out _ (hot.out.mono (fun _ _ f => f.elim))⟩)) (fun hHeld2 => ?_)
    clear hK K
    try simp only [List.getElem_toArray, List.getElem_cons_zero, List.getElem_cons_succ, Act.put, List.setIfInBounds_toArray, List.set_cons_zero, List.set_cons_succ]
    refine wpAnyH_take (i := 12) (v := ?_) rfl (by kernel_rfl) (by kernel_rfl) (by kernel_rfl) (fun _ _ _ h => h) (Or.inl ⟨by rfl, ?_⟩) (by assumption) ?_
    rotate_left 1
    · intro w' hSw
      try dsimp only at hSw
      go_simp
      try with_reducible rfl
    try simp only [List.getElem_toArray, List.getElem_cons_zero, List.getElem_cons_succ, Act.put, List.setIfInBounds_toArray, List.set_cons_zero, List.set_cons_succ]
    refine wpAnyH_take (i := 13) (v := ?_) rfl (by kernel_rfl) (by kernel_rfl) (by kernel_rfl) (fun _ _ _ h => h) (Or.inl ⟨by rfl, ?_⟩) (by assumption) ?_
    rotate_left 1
    · intro w' hSw
      try dsimp only at hSw
      go_simp
      try with_reducible rfl
    try simp only [List.getElem_toArray, List.getElem_cons_zero, List.getElem_cons_succ, Act.put, List.setIfInBounds_toArray, List.set_cons_zero, List.set_cons_succ]
    refine wpAnyH_done (by kernel_rfl) ?_ _
    refine NoPanic.normal ?_
    have HTB := Lib.hid (HT3.out.quiet hot.out)
    have HEN : Hid (Only (fun x => base ≤ x) w W1) := Lib.hid ((HO3.out.trans hot.out).mono (fun _ _ f => f.elim))
    go_wp2_with fail
    go_ret
    exact ⟨by simp, ⟨_, _, S1, S2, v, v2, L, L2, HTB.out⟩, HEN.out⟩
end Go.Proofs.Ythflglejhhebeaa.cs
