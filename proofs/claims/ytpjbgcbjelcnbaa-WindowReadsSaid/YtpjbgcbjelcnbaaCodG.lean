/- codec's Reader on states: Uint, Int, Flag, Text, End, of whatever bytes. -/
import Derived.Test.YtpjbgcbjelcnbaaCodText
import Derived.Test.YtpjbgcbjelcnbaaCodP
namespace Go.Proofs.Ytpjbgcbjelcnbaa.codw
open Go.RowKit mem codm codp
set_option linter.unusedVariables false

def IsN (s : Option (List Nat)) (l : List Nat) (e : Nat) : Prop := match s with
  | some x => e = 0 ∧ l = x
  | none => e ≠ 0
/-- a reader in a state; its bytes lie in blocks of B -/
def RS (B : Nat → Prop) (w : World) (p : Nat) (s : Option (List Nat)) : Prop := ∃ a len cap l e, RD w p a len cap l e ∧ By l ∧ (∀ x, a = some x → B x.block) ∧ IsN s l e
theorem RS.only {B S : Nat → Prop} {w w' : World} {p : Nat} {s : Option (List Nat)} (h : RS B w p s) (ho : Only S w w') (hp : ¬ S p) (hB : ∀ q, B q → ¬ S q) : RS B w' p s := by
  obtain ⟨a, len, cap, l, e, h1, h2, h3, h4⟩ := h
  exact ⟨a, len, cap, l, e, h1.only ho hp (fun x hx => hB _ (h3 x hx)), h2, h3, h4⟩
theorem RS.lt {B : Nat → Prop} {w : World} {p : Nat} {s : Option (List Nat)} (h : RS B w p s) : p < w.heap.size := by
  obtain ⟨a, len, cap, l, e, h1, _⟩ := h
  exact World.block_lt_of_cell? w _ h1.c0
theorem RS.sok {B : Nat → Prop} {w : World} {p : Nat} {s : Option (List Nat)} (h : RS B w p s) : SOk s := by
  obtain ⟨a, len, cap, l, e, h1, h2, h3, h4⟩ := h
  intro x hx
  subst hx
  obtain ⟨-, rfl⟩ := h4
  exact h2
def AftG (B : Nat → Prop) (p : Nat) (w : World) (v : Value) (s : Option (List Nat)) (e : Ending) (w' : World) : Prop := e = .returned v ∧ RS B w' p s ∧ Only (fun k => k = p) w w'
theorem After.rs {B : Nat → Prop} {p : Nat} {a : Option Addr} {w w' : World} {l : List Nat} {e : Nat} {s : Option (List Nat)} (h : After p a w w' l e) (ha : ∀ x, a = some x → B x.block) (hb : By l) (hs : IsN s l e) : RS B w' p s ∧ Only (fun k => k = p) w w' := by
  obtain ⟨a', len', cap', h1, h2, h3⟩ := h
  exact ⟨⟨a', len', cap', l, e, h1, hb, fun x hx => by obtain ⟨y, hy, e2⟩ := h3 x hx; rw [← e2]; exact ha y hy, hs⟩, h2⟩
theorem runt_s {l : List Nat} {e : Nat} {s : Option (List Nat)} (most : Int) (hb : By l) (hs : IsN s l e) : (runt l most e).1 = (uS most s).1 ∧ IsN (uS most s).2 (runt l most e).2.1 (runt l most e).2.2 ∧ By (runt l most e).2.1 := by
  cases s with
  | none =>
    have he : e ≠ 0 := hs
    unfold runt
    rw [if_neg he]
    exact ⟨rfl, he, hb⟩
  | some x =>
    obtain ⟨rfl, rfl⟩ := hs
    unfold runt uS pUint dcount
    rw [if_pos rfl]
    dsimp only
    by_cases h0 : (dec 9 l 0 0).2.2 = 0
    · by_cases h1 : most < ((dec 9 l 0 0).1 : Int)
      · rw [if_pos h0, if_pos h1, if_neg (show ¬ ((0, 0, 5) : Nat × Nat × Nat).2.2 = 0 by decide), if_neg (show ¬ ((dec 9 l 0 0).2.2 = 0 ∧ ((dec 9 l 0 0).1 : Int) ≤ most) from fun q => by have := q.2; omega)]
        exact ⟨rfl, by show (5 : Nat) ≠ 0; decide, hb⟩
      · rw [if_pos h0, if_neg h1, if_pos h0, if_pos ⟨h0, by omega⟩]
        exact ⟨rfl, ⟨rfl, rfl⟩, hb.drop _⟩
    · rw [if_neg h0, if_neg h0, if_neg (fun q => h0 q.1)]
      exact ⟨rfl, h0, hb⟩
theorem rint_st {l : List Nat} {e : Nat} {s : Option (List Nat)} (hb : By l) (hs : IsN s l e) : (rint l e).1 = (iS s).1 ∧ IsN (iS s).2 (rint l e).2.1 (rint l e).2.2 ∧ By (rint l e).2.1 := by
  cases s with
  | none =>
    have he : e ≠ 0 := hs
    unfold rint
    rw [if_neg he]
    exact ⟨rfl, he, hb⟩
  | some x =>
    obtain ⟨rfl, rfl⟩ := hs
    unfold rint iS pInt
    rw [if_pos rfl]
    dsimp only
    by_cases h0 : (dec 10 l 0 0).2.2 = 0
    · rw [if_pos h0, if_pos h0]
      exact ⟨rfl, ⟨rfl, rfl⟩, hb.drop _⟩
    · rw [if_neg h0, if_neg h0]
      exact ⟨rfl, h0, hb⟩
theorem guint (B : Nat → Prop) (p : Nat) (most : Int) (s : Option (List Nat)) (w : World) (h : RS B w p s) : Calls Try.prog 60 #[.pointer (some ⟨p, 0, none⟩), .int .i64 most] w (AftG B p w (.int .i64 ((uS most s).1 : Int)) (uS most s).2) := by
  obtain ⟨a, len, cap, l, e, h1, h2, h3, h4⟩ := h
  refine (uint_any p a len cap l e most w h1).mono ?_
  rintro _ w' ⟨rfl, ha⟩
  obtain ⟨e1, e2, e3⟩ := runt_s most h2 h4
  obtain ⟨r1, r2⟩ := ha.rs h3 e3 e2
  exact ⟨by rw [e1], r1, r2⟩
theorem gint (B : Nat → Prop) (p : Nat) (s : Option (List Nat)) (w : World) (h : RS B w p s) : Calls Try.prog 82 #[.pointer (some ⟨p, 0, none⟩)] w (AftG B p w (.int .i64 (iS s).1) (iS s).2) := by
  obtain ⟨a, len, cap, l, e, h1, h2, h3, h4⟩ := h
  refine (int_any p a len cap l e w h1).mono ?_
  rintro _ w' ⟨rfl, ha⟩
  obtain ⟨e1, e2, e3⟩ := rint_st h2 h4
  obtain ⟨r1, r2⟩ := ha.rs h3 e3 e2
  exact ⟨by rw [e1], r1, r2⟩
theorem gend (B : Nat → Prop) (p : Nat) (s : Option (List Nat)) (w : World) (h : RS B w p s) : Calls Try.prog 62 #[.pointer (some ⟨p, 0, none⟩)] w fun e w' => (∃ er : Nat, e = .returned (.int .i64 (er : Int)) ∧ (er = 0 ↔ s = some [])) ∧ w = w' := by
  obtain ⟨a, len, cap, l, e, h1, h2, h3, h4⟩ := h
  refine (end_any p a len cap l e w h1).mono ?_
  rintro _ w' ⟨rfl, ha⟩
  refine ⟨⟨rend l e, rfl, ?_⟩, ha⟩
  cases s with
  | none =>
    have he : e ≠ 0 := h4
    unfold rend
    rw [if_neg he]
    exact ⟨fun q => absurd q he, fun q => by cases q⟩
  | some x =>
    obtain ⟨rfl, rfl⟩ := h4
    unfold rend
    rw [if_pos rfl]
    by_cases hl : l = []
    · rw [if_pos hl, hl]; simp
    · rw [if_neg hl]; simp [hl]
theorem stop_no {w : World} {p : Nat} {a : Option Addr} {len cap : Nat} {l : List Nat} {e : Nat} (h : RD w p a len cap l e) (he : e ≠ 0) : Calls Try.prog 97 #[.pointer (some ⟨p, 0, none⟩)] w fun en w' => en = .returned (.bool true) ∧ w = w' := by
  refine (stopped_any p a len cap l e w h).mono ?_
  rintro _ w' ⟨rfl, hw⟩
  exact ⟨by rw [show ((e : Int) != 0) = true by rw [bne_iff_ne]; omega], hw⟩
set_option maxRecDepth 100000 in
set_option maxHeartbeats 2000000 in
theorem gflag (B : Nat → Prop) (p : Nat) (s : Option (List Nat)) (w : World) (h : RS B w p s) : Calls Try.prog 81 #[.pointer (some ⟨p, 0, none⟩)] w (AftG B p w (.bool (fS s).1) (fS s).2) := by
  obtain ⟨a, len, cap, l, e, h1, h2, h3, h4⟩ := h
  cases s with
  | none =>
    have HS := Lib.hid (stop_no h1 h4)
    have HFIN : Hid (AftG B p w (.bool (fS none).1) (fS none).2 (.returned (.bool false)) w) := Lib.hid ⟨rfl, ⟨a, len, cap, l, e, h1, h2, h3, h4⟩, Only.refl _ _⟩
    clear h1 h2 h3 h4
    go_enter Try.func81, Try.ntmps81
    go_wp2_with fail
    refine HS.out.mono ?_
    rintro _ _ ⟨rfl, rfl⟩
    go_wp2_with fail
    go_ret
    exact HFIN.out
  | some x =>
    obtain ⟨rfl, rfl⟩ := h4
    have hll := h1.reads.1
    cases l with
    | nil =>
      have hl0 : len = 0 := by simpa using hll.symm
      subst hl0
      have c0 := h1.c0
      have c1 := h1.c1
      have f1 := h1.f1
      have HH := Lib.hid h1
      have HFIN : Hid (RS B (w.setCell ⟨p, 1, none⟩ (.int .i64 ((3 : Nat) : Int))) p none) := Lib.hid ⟨a, 0, cap, [], 3, h1.err 3, h2, h3, by show (3 : Nat) ≠ 0; decide⟩
      clear h1 h2 h3 hll
      go_enter Try.func81, Try.ntmps81
      go_wp2_with fail
      refine (stopped_any p _ _ _ _ _ _ HH.out).mono ?_
      rintro _ _ ⟨rfl, rfl⟩
      go_wp2_with fail
      go_ret
      exact ⟨rfl, HFIN.out, Only.set _ _ p 1 _ rfl⟩
    | cons c r =>
      by_cases hc1 : c ≤ 1
      · have HU : Hid (fS (some (c :: r)) = ((c : Int) == 1, some r)) := Lib.hid (by
          unfold fS pFlag
          dsimp only
          by_cases h0 : c = 0
          · subst h0; rfl
          · obtain rfl : c = 1 := by omega
            rfl)
        rw [HU.out]
        refine (flag_back p a len cap c r w h1 hc1).mono ?_
        rintro _ w' ⟨rfl, ha⟩
        obtain ⟨r1, r2⟩ := ha.rs (s := some r) h3 (h2.drop 1) ⟨rfl, rfl⟩
        exact ⟨rfl, r1, r2⟩
      · have HU : Hid (fS (some (c :: r)) = (false, none)) := Lib.hid (by unfold fS pFlag; dsimp only; rw [if_neg (by omega), if_neg (by omega)])
        rw [HU.out]
        have hlen : len = r.length + 1 := by rw [← hll]; rfl
        obtain ⟨b, off, rfl, hcell⟩ := h1.reads.2.2.2.resolve_left (by omega)
        have hcl := hcell 0 (by omega)
        rw [Nat.add_zero] at hcl
        simp only [List.getD_cons_zero] at hcl
        have c0 := h1.c0
        have c1 := h1.c1
        have f1 := h1.f1
        have HH := Lib.hid h1
        have hc1' : (1 : Int) < c := by omega
        have hl0 : 0 < len := by omega
        have hl0b : ((len : Int) == 0) = false := by rw [beq_eq_false_iff_ne]; omega
        have HFIN : Hid (RS B (w.setCell ⟨p, 1, none⟩ (.int .i64 ((2 : Nat) : Int))) p none) := Lib.hid ⟨some ⟨b, off, none⟩, len, cap, c :: r, 2, h1.err 2, h2, h3, by show (2 : Nat) ≠ 0; decide⟩
        clear h1 h2 h3 hll hcell hlen
        go_enter Try.func81, Try.ntmps81
        go_wp2_with fail
        refine (stopped_any p _ _ _ _ _ _ HH.out).mono ?_
        rintro _ _ ⟨rfl, rfl⟩
        go_wp2_with fail
        go_ret
        exact ⟨rfl, HFIN.out, Only.set _ _ p 1 _ rfl⟩
/-- a text: new memory -/
def TxtG (B : Nat → Prop) (p : Nat) (w : World) (t : List Nat) (s : Option (List Nat)) (e : Ending) (w' : World) : Prop := ∃ v', e = .returned v' ∧ OwnB w' v' t ∧ (∀ k, v'.ownBlock = some k → w.heap.size ≤ k) ∧ RS B w' p s ∧ Only (fun k => k = p) w w'
theorem txt_no {B : Nat → Prop} {p : Nat} {w w' : World} {a : Option Addr} {len cap : Nat} {l : List Nat} {e : Nat} (h : RD w' p a len cap l e) (hb : By l) (ha : ∀ x, a = some x → B x.block) (he : e ≠ 0) (ho : Only (fun k => k = p) w w') : TxtG B p w [] none (.returned (.slice none 0 0)) w' :=
  ⟨_, rfl, OwnB.nil _, (fun k hk => by cases hk), ⟨a, len, cap, l, e, h, hb, ha, he⟩, ho⟩
set_option maxRecDepth 100000 in
set_option maxHeartbeats 4000000 in
theorem gtext (B : Nat → Prop) (p : Nat) (most : Int) (s : Option (List Nat)) (w : World) (h : RS B w p s) : Calls Try.prog 83 #[.pointer (some ⟨p, 0, none⟩), .int .i64 most] w (TxtG B p w (tS most s).1 (tS most s).2) := by
  obtain ⟨a, len, cap, l, e, h1, h2, h3, h4⟩ := h
  cases s with
  | none =>
    have HS := Lib.hid (stop_no h1 h4)
    have HFIN := Lib.hid (txt_no (B := B) (w := w) h1 h2 h3 h4 (Only.refl _ _))
    clear h1 h2 h3 h4
    go_enter Try.func83, Try.ntmps83
    go_wp2_with fail
    refine HS.out.mono ?_
    rintro _ _ ⟨rfl, rfl⟩
    go_wp2_with fail
    go_ret
    exact HFIN.out
  | some x =>
    obtain ⟨rfl, rfl⟩ := h4
    have HH := Lib.hid h1
    have c0 := h1.c0
    have c1 := h1.c1
    have f0 := h1.f0
    have f1 := h1.f1
    obtain ⟨n, sz, er, hd⟩ : ∃ n s er, dcount l most = (n, s, er) := ⟨_, _, _, rfl⟩
    have HD := Lib.hid hd
    by_cases her : er = 0
    · subst her
      obtain ⟨g1, g2, g3, g4, g5, g6, g7⟩ := dcount_ok h2.1 hd
      have hpu : pUint most l = some (n, l.drop sz) := by
        unfold pUint
        rw [g1]
        dsimp only
        rw [if_pos ⟨rfl, g2⟩]
      have hll := h1.reads.1
      have hlb := h2.2
      have hlen1 : len ≤ 100000000 := by omega
      have hszl : sz ≤ len := by omega
      have hsub : (len : Int) - (sz : Int) = ((len - sz : Nat) : Int) := by omega
      by_cases hn : n ≤ len - sz
      · have HT : Hid (tS most (some l) = ((l.drop sz).take n, some ((l.drop sz).drop n))) := Lib.hid (by
          unfold tS pText; dsimp only; rw [hpu]; dsimp only; rw [if_pos (by rw [List.length_drop]; omega)])
        rw [HT.out]
        obtain ⟨b, off, rfl, hcell⟩ := h1.reads.2.2.2.resolve_left (by omega)
        have hlc := h1.lc
        have hcm := h1.cm
        unfold maxLen at hcm
        have hb2 : Bytes w (some ⟨b, off + sz, none⟩) n (cap - sz) ((l.drop sz).take n) := by
          have q1 := (Reads.drop h1.reads sz hszl).take n (by omega)
          exact ⟨q1, by omega, by unfold maxLen; omega, fun f => by cases f⟩
        have hle : sz + n ≤ len := by omega
        have hdd : (l.drop sz).drop n = l.drop (sz + n) := by rw [List.drop_drop]
        have hby : By ((l.drop sz).drop n) := (h2.drop sz).drop n
        have HBY := Lib.hid hby
        have HBB := Lib.hid (h3 _ rfl)
        have HOFF := Lib.hid (h1.off _ rfl)
        have HDD := Lib.hid hdd
        have hgt : ¬ ((len - sz : Nat) : Int) < (n : Int) := by omega
        have hn0 : (0 : Int) ≤ n := by omega
        have hsn : IntKind.i64.wrap ((sz : Int) + (n : Int)) = ((sz + n : Nat) : Int) := by rw [IntKind.wrap_i64]; omega
        have hwl : IntKind.i64.wrap ((len : Int) - (sz : Int)) = (len : Int) - (sz : Int) := by rw [IntKind.wrap_i64]; omega
        have hcl : (len : Int) ≤ cap := by omega
        clear h1 h2 h3 hd g1 g2 g4 g5 g7 hpu hcell hby hdd HT
        by_cases hcs : cap = sz
        · obtain rfl : n = 0 := by omega
          subst hcs
          obtain rfl : len = cap := by omega
          have HB2 : Hid (Bytes w (some ⟨b, off, none⟩) 0 0 ((l.drop len).take 0)) := Lib.hid ⟨by rw [List.take_zero]; exact Reads.none_left _, Nat.le_refl _, by unfold maxLen; omega, fun f => by cases f⟩
          clear hb2
          go_enter Try.func83, Try.ntmps83
          go_wp2_with fail
          refine (stopped_any p _ _ _ _ _ _ HH.out).mono ?_
          rintro _ _ ⟨rfl, rfl⟩
          go_wp2_with fail
          refine (count_any _ _ _ _ _ _ HH.out.reads).mono ?_
          rintro _ _ ⟨rfl, rfl⟩
          rw [HD.out]
          go_wp2_with fail
          refine (clone_any _ _ _ _ _ HB2.out (by omega)).mono ?_
          rintro _ w1 ⟨v1, rfl, hv1, hO1, hk1⟩
          have V1 := Lib.hid hv1
          have H1 := Lib.hid (HH.out.only hO1 (fun f => f) (fun _ _ f => f))
          have c01 := H1.out.c0
          have f01 := H1.out.f0
          have O1 := Lib.hid hO1
          have K1 := Lib.hid hk1
          clear hv1 hO1 hk1 c0 f0 c1 f1
          go_wp2_with fail
          go_ret
          refine ⟨v1, rfl, V1.out.only (Only.set (fun k => k = p) _ p 0 _ rfl) (fun k hk e => ?_), K1.out, ⟨some ⟨b, off, none⟩, 0, 0, [], 0, H1.out.left (Reads.none_left (some ⟨b, off, none⟩)) (Nat.le_refl 0) (by unfold maxLen; omega) (fun x hx => by injection hx with hx; subst hx; exact HOFF.out), ⟨fun c hc => (by cases hc), by simp⟩, (fun x hx => by injection hx with hx; subst hx; exact HBB.out), rfl, ?_⟩, only_set O1.out p 0 _⟩
          · have q1 := K1.out k hk
            have q2 : p < w.heap.size := World.block_lt_of_cell? w _ HH.out.c0
            omega
          · rw [HDD.out, Nat.add_zero, List.drop_eq_nil_of_le (by rw [hll]; omega)]
        · have hsc : (sz : Int) < cap := by omega
          have hszc : sz < cap := by omega
          have HB2 := Lib.hid hb2
          clear hb2
          by_cases hcn : cap = sz + n
          · have hnil : Hid (l.drop (sz + n) = []) := Lib.hid (List.drop_eq_nil_of_le (by omega))
            subst hcn
            obtain rfl : len = sz + n := by omega
            rw [Nat.add_sub_cancel_left] at HB2
            go_enter Try.func83, Try.ntmps83
            go_wp2_with fail
            refine (stopped_any p _ _ _ _ _ _ HH.out).mono ?_
            rintro _ _ ⟨rfl, rfl⟩
            go_wp2_with fail
            refine (count_any _ _ _ _ _ _ HH.out.reads).mono ?_
            rintro _ _ ⟨rfl, rfl⟩
            rw [HD.out]
            go_wp2_with fail
            refine (clone_any _ _ _ _ _ HB2.out (by omega)).mono ?_
            rintro _ w1 ⟨v1, rfl, hv1, hO1, hk1⟩
            have V1 := Lib.hid hv1
            have H1 := Lib.hid (HH.out.only hO1 (fun f => f) (fun _ _ f => f))
            have c01 := H1.out.c0
            have f01 := H1.out.f0
            have O1 := Lib.hid hO1
            have K1 := Lib.hid hk1
            clear hv1 hO1 hk1 c0 f0 c1 f1
            go_wp2_with fail
            go_ret
            refine ⟨v1, rfl, V1.out.only (Only.set (fun k => k = p) _ p 0 _ rfl) (fun k hk e => ?_), K1.out, ⟨some ⟨b, off, none⟩, 0, 0, [], 0, H1.out.left (Reads.none_left (some ⟨b, off, none⟩)) (Nat.le_refl 0) (by unfold maxLen; omega) (fun x hx => by injection hx with hx; subst hx; exact HOFF.out), ⟨fun c hc => (by cases hc), by simp⟩, (fun x hx => by injection hx with hx; subst hx; exact HBB.out), rfl, ?_⟩, only_set O1.out p 0 _⟩
            · have q1 := K1.out k hk
              have q2 : p < w.heap.size := World.block_lt_of_cell? w _ HH.out.c0
              omega
            · rw [HDD.out, hnil.out]
          · have hcn2 : sz + n < cap := by omega
            go_enter Try.func83, Try.ntmps83
            go_wp2_with fail
            refine (stopped_any p _ _ _ _ _ _ HH.out).mono ?_
            rintro _ _ ⟨rfl, rfl⟩
            go_wp2_with fail
            refine (count_any _ _ _ _ _ _ HH.out.reads).mono ?_
            rintro _ _ ⟨rfl, rfl⟩
            rw [HD.out]
            go_wp2_with fail
            refine (clone_any _ _ _ _ _ HB2.out (by omega)).mono ?_
            rintro _ w1 ⟨v1, rfl, hv1, hO1, hk1⟩
            have V1 := Lib.hid hv1
            have H1 := Lib.hid (HH.out.only hO1 (fun f => f) (fun _ _ f => f))
            have c01 := H1.out.c0
            have f01 := H1.out.f0
            have O1 := Lib.hid hO1
            have K1 := Lib.hid hk1
            clear hv1 hO1 hk1 c0 f0 c1 f1
            go_wp2_with fail
            go_ret
            refine ⟨v1, rfl, V1.out.only (Only.set (fun k => k = p) _ p 0 _ rfl) (fun k hk e => ?_), K1.out, ⟨some ⟨b, off + (sz + n), none⟩, len - (sz + n), cap - (sz + n), (l.drop sz).drop n, 0, H1.out.left (by rw [HDD.out]; exact Reads.drop H1.out.reads (sz + n) hle) (by omega) (by unfold maxLen; omega) (fun x hx => by injection hx with hx; subst hx; exact HOFF.out), HBY.out, (fun x hx => by injection hx with hx; subst hx; exact HBB.out), rfl, rfl⟩, only_set O1.out p 0 _⟩
            · have q1 := K1.out k hk
              have q2 : p < w.heap.size := World.block_lt_of_cell? w _ HH.out.c0
              omega
      · have HT : Hid (tS most (some l) = ([], none)) := Lib.hid (by
          unfold tS pText; dsimp only; rw [hpu]; dsimp only; rw [if_neg (by rw [List.length_drop]; omega)])
        rw [HT.out]
        have hgt : ((len - sz : Nat) : Int) < (n : Int) := by omega
        have hwl : IntKind.i64.wrap ((len : Int) - (sz : Int)) = (len : Int) - (sz : Int) := by rw [IntKind.wrap_i64]; omega
        have HFIN := Lib.hid (txt_no (B := B) (h1.err 3) h2 h3 (by decide) (Only.set (fun k => k = p) w p 1 _ rfl))
        clear h1 h2 h3 hd g1 g2 g4 g5 g7 hpu HT
        go_enter Try.func83, Try.ntmps83
        go_wp2_with fail
        refine (stopped_any p _ _ _ _ _ _ HH.out).mono ?_
        rintro _ _ ⟨rfl, rfl⟩
        go_wp2_with fail
        refine (count_any _ _ _ _ _ _ HH.out.reads).mono ?_
        rintro _ _ ⟨rfl, rfl⟩
        rw [HD.out]
        go_wp2_with fail
        go_ret
        exact HFIN.out
    · have hpu : pUint most l = none := by
        unfold pUint
        rw [if_neg]
        rintro ⟨q1, q2⟩
        apply her
        have : (dcount l most).2.2 = 0 := by unfold dcount; rw [if_pos q1, if_neg (by omega)]; exact q1
        rw [hd] at this
        exact this
      have HT : Hid (tS most (some l) = ([], none)) := Lib.hid (by unfold tS pText; dsimp only; rw [hpu])
      rw [HT.out]
      have hz0 : n = 0 ∧ sz = 0 := by
        have := dcount_err (l := l) (most := most) (by rw [hd]; exact her)
        rw [hd] at this; exact this
      obtain ⟨rfl, rfl⟩ := hz0
      have hne : ((er : Int) != 0) = true := by rw [bne_iff_ne]; omega
      have hne2 : ((er : Int) == 0) = false := by rw [beq_eq_false_iff_ne]; omega
      have HFIN := Lib.hid (txt_no (B := B) (h1.err er) h2 h3 her (Only.set (fun k => k = p) w p 1 _ rfl))
      clear h1 h2 h3 hd hpu her HT
      go_enter Try.func83, Try.ntmps83
      go_wp2_with fail
      refine (stopped_any p _ _ _ _ _ _ HH.out).mono ?_
      rintro _ _ ⟨rfl, rfl⟩
      go_wp2_with fail
      refine (count_any _ _ _ _ _ _ HH.out.reads).mono ?_
      rintro _ _ ⟨rfl, rfl⟩
      rw [HD.out]
      go_wp2_with fail
      go_ret
      exact HFIN.out
end Go.Proofs.Ytpjbgcbjelcnbaa.codw
