/- Several texts together: TrM, TrG. -/
import Derived.Test.YtkbaafgaaiekpaaGreatPeriodRestoresZ1
namespace Go.Proofs.YtkbaafgaaiekpaaGreat.tre
open Go.RowKit mem
set_option linter.unusedVariables false
theorem hasB_nat {T : List Nd} {k : Nat} : hasB T (k : Int) = true ↔ 1 ≤ k ∧ k ≤ 32 ∧ (T.getD k default).id ≠ 0 := by
  rw [hasB_iff, Int.toNat_natCast]; omega
theorem hasB_lt {T : List Nd} {x : Int} (h : hasB T x = true) : ∃ k : Nat, x = k ∧ 1 ≤ k ∧ k < 33 := by
  have := hasB_iff.1 h; exact ⟨x.toNat, by omega, by omega, by omega⟩
structure Tok (T : List Nd) : Prop where
  len : T.length = 33
  idk : ∀ k : Nat, k < 33 → (T.getD k default).id = 0 ∨ (T.getD k default).id = k
  inv : Inv T
  kok : KindOk T
  opn : ∀ k : Nat, hasB T k = true → (T.getD k default).kind ≠ 1 → (T.getD (T.getD k default).par.toNat default).cl = true → (T.getD k default).cl = true
  lim : ∀ k : Nat, hasB T k = true → -1 ≤ (T.getD k default).lim ∧ (T.getD k default).lim ≤ 9007199254740992
  or1 : ∀ k : Nat, hasB T k = true → (T.getD k default).par = 0 → (T.getD k default).kind = 1
theorem getD_out {T : List Nd} {k : Nat} (h : T.length ≤ k) : T.getD k default = default := by simp [List.getD, List.getElem?_eq_none h]
theorem hasB_set {T : List Nd} {k : Nat} {n : Nd} (hT : T.length = 33) (hk : k < 33) (h1 : 1 ≤ k) (hn : n.id ≠ 0) (j : Nat) : hasB (T.set k n) j = true ↔ j = k ∨ hasB T j = true := by
  rw [hasB_nat, hasB_nat, getD_set T k j n (by omega)]
  by_cases h : j = k
  · subst h; rw [if_pos rfl]; simp [hn]; omega
  · rw [if_neg h]; simp [h]
theorem kok_set {T : List Nd} (h : KindOk T) {k : Nat} {n : Nd} (hk : k < T.length) (h0 : 0 ≤ n.kind) (h3 : n.kind ≤ 3) : KindOk (T.set k n) := by
  intro j; rw [getD_set T k j n hk]
  by_cases e : j = k
  · rw [if_pos e]; exact ⟨h0, h3⟩
  · rw [if_neg e]; exact h j
theorem Tok.upd {T : List Nd} (h : Tok T) {k : Nat} (hb : hasB T k = true) {n : Nd} (hid : n.id = (T.getD k default).id) (hkd : n.kind = (T.getD k default).kind)
    (hp1 : n.kind = 1 → n.par = 0) (hp2 : n.kind ≠ 1 → hasB T n.par = true ∧ (T.getD n.par.toNat default).kind = n.kind - 1) (hl : -1 ≤ n.lim ∧ n.lim ≤ 9007199254740992)
    (ho1 : n.kind ≠ 1 → (T.getD n.par.toNat default).cl = true → n.cl = true)
    (ho2 : n.cl = true → (T.getD k default).cl = true ∨ ∀ j : Nat, hasB T j = true → (T.getD j default).par = k → (T.getD j default).cl = true) : Tok (T.set k n) := by
  obtain ⟨k1, k2, k3⟩ := hasB_nat.1 hb; have hk : k < 33 := (by omega); have hn0 : n.id ≠ 0 := (by rw [hid]; exact k3); have hset : ∀ j, (T.set k n).getD j default = if j = k then n else T.getD j default := fun j => getD_set T k j n (by rw [h.len]; exact hk)
  have hhas : ∀ j : Nat, hasB (T.set k n) j = true ↔ hasB T j = true := fun j => by
    rw [hasB_set h.len hk k1 hn0]; exact ⟨fun e => e.elim (fun e => by rw [e]; exact hb) id, .inr⟩
  have hkind : ∀ j, ((T.set k n).getD j default).kind = (T.getD j default).kind := fun j => by
    rw [hset]
    by_cases e : j = k
    · rw [if_pos e, e, hkd]
    · rw [if_neg e]
  have hasi : ∀ x : Int, hasB T x = true → hasB (T.set k n) x = true := fun x hx => by
    obtain ⟨m, rfl, _⟩ := hasB_lt hx; exact (hhas m).2 hx
  have hI := h.inv k hb; refine ⟨by simpa using h.len, fun j hj => ?_, fun j hj => ?_, kok_set h.kok (by rw [h.len]; exact hk) (by rw [hkd]; omega) (by rw [hkd]; omega), fun j hj => ?_, fun j hj => ?_, fun j hj => ?_⟩
  · rw [hset]
    by_cases e : j = k
    · rw [if_pos e, hid, e]; exact h.idk k hk
    · rw [if_neg e]; exact h.idk j hj
  · have hj' := (hhas j).1 hj; rw [hkind, hset]; have hJ := h.inv j hj'
    by_cases e : j = k
    · rw [if_pos e, e]; refine ⟨hI.1, hI.2.1, fun q => hp1 (by rw [hkd]; exact q), fun q => ?_⟩; have := hp2 (by rw [hkd]; exact q); exact ⟨hasi _ this.1, by rw [hkind, this.2, hkd]⟩
    · rw [if_neg e]; refine ⟨hJ.1, hJ.2.1, hJ.2.2.1, fun q => ?_⟩; have := hJ.2.2.2 q; exact ⟨hasi _ this.1, by rw [hkind]; exact this.2⟩
  · have hj' := (hhas j).1 hj; rw [hkind]; intro hk1
    by_cases e : j = k
    · subst e; rw [hset j, if_pos rfl]; intro hc; have hp := hp2 (by rw [hkd]; exact hk1); obtain ⟨m, hm, _⟩ := hasB_lt hp.1; have hne : n.par.toNat ≠ j := by
        intro q; have := hp.2; rw [q, hkd] at this; omega
      rw [hset, if_neg hne] at hc; exact ho1 (by rw [hkd]; exact hk1) hc
    · have hp := (h.inv j hj').2.2.2 hk1; obtain ⟨m, hm, _⟩ := hasB_lt hp.1; rw [hset j, if_neg e]; intro hc
      by_cases e2 : m = k
      · subst e2; rw [hm, Int.toNat_natCast, hset, if_pos rfl] at hc; rcases ho2 hc with q | q
        · exact h.opn j hj' hk1 (by rw [hm, Int.toNat_natCast]; exact q)
        · exact q j hj' hm
      · rw [hm, Int.toNat_natCast, hset, if_neg e2] at hc; exact h.opn j hj' hk1 (by rw [hm, Int.toNat_natCast]; exact hc)
  · rw [hset]
    by_cases e : j = k
    · rw [if_pos e]; exact hl
    · rw [if_neg e]; exact h.lim j ((hhas j).1 hj)
  · rw [hkind, hset]
    by_cases e : j = k
    · rw [if_pos e, e]; intro q; rcases Int.lt_or_le 1 (T.getD k default).kind with q2 | q2
      · have := (hp2 (by rw [hkd]; omega)).1; rw [q] at this; have := hasB_iff.1 this; omega
      · omega
    · rw [if_neg e]; exact h.or1 j ((hhas j).1 hj)
theorem got_has {T : List Nd} {k : Nat} (h : hasB T k = true) : got T k = T.getD k default := by unfold got; rw [if_pos h, Int.toNat_natCast]
theorem got_has' {T : List Nd} {x : Int} (h : hasB T x = true) : got T x = T.getD x.toNat default := by unfold got; rw [if_pos h]
theorem takE_ok {T : List Nd} {par kind : Int} (h : takE T par kind = 0) : hasB T par = true ∧ (T.getD par.toNat default).kind = kind - 1 ∧ (T.getD par.toNat default).cl = false := by
  unfold takE at h
  by_cases hb : hasB T par = false
  · rw [if_pos hb] at h; simp at h
  · have hb' : hasB T par = true := (by simpa using hb); rw [if_neg hb, got_has' hb'] at h; split at h
    · simp at h
    · split at h
      · simp at h
      · rename_i q1 q2
        exact ⟨hb', by simpa using q1, by simpa using q2⟩
theorem takE_closed {T : List Nd} {par kind : Int} (h : takE T par kind = 16) : hasB T par = true ∧ (T.getD par.toNat default).kind = kind - 1 ∧ (T.getD par.toNat default).cl = true := by
  unfold takE at h
  by_cases hb : hasB T par = false
  · rw [if_pos hb] at h; simp at h
  · have hb' : hasB T par = true := (by simpa using hb); rw [if_neg hb, got_has' hb'] at h; split at h
    · simp at h
    · split at h
      · rename_i q1 q2
        exact ⟨hb', by simpa using q1, q2⟩
      · simp at h
theorem Tok.move {T : List Nd} (h : Tok T) (id par : Int) : Tok (movT T id par) := by
  unfold movT
  by_cases he : movE T id par = 0
  · rw [if_pos he]; unfold movE at he
    by_cases hb : hasB T id = false
    · rw [if_pos hb] at he; simp at he
    · have hb' : hasB T id = true := (by simpa using hb); obtain ⟨k, rfl, h1, h2⟩ := hasB_lt hb'; rw [if_neg hb, got_has hb'] at he; rw [got_has hb', Int.toNat_natCast]; split at he
      · simp at he
      · rename_i q1
        split at he
        · simp at he
        · rename_i q2
          split at he
          · rename_i q3; exact absurd he q3
          · rename_i q3
            have q4 := takE_ok (show takE T par (T.getD k default).kind = 0 by simpa using q3); refine h.upd hb' rfl rfl (fun q => absurd q q2) (fun _ => ⟨q4.1, q4.2.1⟩) (h.lim k hb') (fun _ q => ?_) (fun q => .inl q); rw [q4.2.2] at q; simp at q
  · rw [if_neg he]; exact h
theorem busy_no {T : List Nd} {id : Int} (h : ¬ busyB T id = true) (j : Nat) (hj : j < T.length) (hp : (T.getD j default).par = id) : (T.getD j default).cl = true := by
  have e : T.getD j default = T[j] := (by simp [List.getD, hj]); rw [e] at hp ⊢
  by_cases hc : T[j].cl = true
  · exact hc
  · exact absurd (List.any_eq_true.2 ⟨T[j], List.getElem_mem hj, by simp [hp, hc]⟩) h
theorem Tok.close {T : List Nd} (h : Tok T) (id : Int) : Tok (cloT T id) := by
  unfold cloT
  by_cases he : cloE T id = 0
  · rw [if_pos he]; unfold cloE at he
    by_cases hb : hasB T id = false
    · rw [if_pos hb] at he; simp at he
    · have hb' : hasB T id = true := (by simpa using hb); obtain ⟨k, rfl, h1, h2⟩ := hasB_lt hb'; rw [if_neg hb, got_has hb'] at he; rw [got_has hb', Int.toNat_natCast]; split at he
      · simp at he
      · split at he
        · simp at he
        · rename_i q1 q2
          have hI := h.inv k hb'; refine h.upd hb' rfl rfl hI.2.2.1 hI.2.2.2 (h.lim k hb') (fun _ _ => rfl) (fun _ => .inr fun j hj hp => ?_); obtain ⟨j1, j2, _⟩ := hasB_nat.1 hj; exact busy_no q2 j (by rw [h.len]; omega) hp
  · rw [if_neg he]; exact h
theorem putE_ok {T : List Nd} {n : Nd} (h : putE T n = 0) : ∃ k : Nat, n.id = k ∧ 1 ≤ k ∧ k < 33 ∧ (-1 ≤ n.lim ∧ n.lim ≤ 9007199254740992) ∧ 1 ≤ n.kind ∧ n.kind ≤ 3 ∧ (n.par = 0 ↔ n.kind = 1) ∧ hasB T k = false ∧
    (n.kind ≠ 1 → hasB T n.par = true ∧ (T.getD n.par.toNat default).kind = n.kind - 1 ∧ ((T.getD n.par.toNat default).cl = true → n.cl = true)) := by
  unfold putE at h; split at h; · simp at h
  split at h; · simp at h
  split at h; · simp at h
  split at h; · simp at h
  split at h; · simp at h
  rename_i q1 q2 q3 q4 q5
  replace q1 := Decidable.not_not.1 q1; replace q2 := Decidable.not_not.1 q2; replace q3 := Decidable.not_not.1 q3; replace q4 := Decidable.not_not.1 q4; refine ⟨n.id.toNat, by omega, by omega, by omega, q2, q3.1, q3.2, q4, ?_, fun hk => ?_⟩
  · rw [show ((n.id.toNat : Nat) : Int) = n.id by omega]; simpa using q5
  · rw [if_neg hk] at h; split at h
    · rename_i q6
      obtain ⟨a, b, c⟩ := takE_closed q6.1; exact ⟨a, b, fun _ => q6.2⟩
    · obtain ⟨a, b, c⟩ := takE_ok h; exact ⟨a, b, fun q => by rw [c] at q; simp at q⟩
theorem Tok.put {T : List Nd} (h : Tok T) (n : Nd) : Tok (putT T n) := by
  unfold putT
  by_cases he : putE T n = 0
  · rw [if_pos he]; obtain ⟨k, hid, k1, hk, hl, hk1, hk3, hpk, hno, hpar⟩ := putE_ok he; rw [hid, Int.toNat_natCast]; have hn0 : n.id ≠ 0 := (by omega); have hset : ∀ j, (T.set k n).getD j default = if j = k then n else T.getD j default := fun j => getD_set T k j n (by rw [h.len]; exact hk)
    have hhas : ∀ j : Nat, hasB (T.set k n) j = true ↔ j = k ∨ hasB T j = true := hasB_set h.len hk k1 hn0; have hne : ∀ x : Int, hasB T x = true → x.toNat ≠ k := fun x hx q => by
      obtain ⟨m, rfl, _⟩ := hasB_lt hx; rw [Int.toNat_natCast] at q; rw [q, hno] at hx; simp at hx
    have hasi : ∀ x : Int, hasB T x = true → hasB (T.set k n) x = true := fun x hx => by
      obtain ⟨m, rfl, _⟩ := hasB_lt hx; exact (hhas m).2 (.inr hx)
    refine ⟨by simpa using h.len, fun j hj => ?_, fun j hj => ?_, kok_set h.kok (by rw [h.len]; exact hk) (by omega) hk3, fun j hj => ?_, fun j hj => ?_, fun j hj => ?_⟩
    · rw [hset]
      by_cases e : j = k
      · rw [if_pos e, hid, e]; exact .inr rfl
      · rw [if_neg e]; exact h.idk j hj
    · by_cases e : j = k
      · rw [hset, if_pos e]; refine ⟨hk1, hk3, fun q => hpk.2 q, fun q => ?_⟩; obtain ⟨a, b, c⟩ := hpar q; exact ⟨hasi _ a, by rw [hset, if_neg (hne _ a)]; exact b⟩
      · have hj' := ((hhas j).1 hj).resolve_left e; have hJ := h.inv j hj'; rw [hset, if_neg e]; refine ⟨hJ.1, hJ.2.1, hJ.2.2.1, fun q => ?_⟩; have := hJ.2.2.2 q; exact ⟨hasi _ this.1, by rw [hset, if_neg (hne _ this.1)]; exact this.2⟩
    · by_cases e : j = k
      · rw [hset, if_pos e]; intro q1 q2; obtain ⟨a, b, c⟩ := hpar q1; rw [hset, if_neg (hne _ a)] at q2; exact c q2
      · have hj' := ((hhas j).1 hj).resolve_left e; rw [hset j, if_neg e]; intro q1 q2; have := (h.inv j hj').2.2.2 q1; rw [hset, if_neg (hne _ this.1)] at q2; exact h.opn j hj' q1 q2
    · by_cases e : j = k
      · rw [hset, if_pos e]; exact hl
      · rw [hset, if_neg e]; exact h.lim j (((hhas j).1 hj).resolve_left e)
    · by_cases e : j = k
      · rw [hset, if_pos e]; exact hpk.1
      · rw [hset, if_neg e]; exact h.or1 j (((hhas j).1 hj).resolve_left e)
  · rw [if_neg he]; exact h
def T0 : List Nd := List.replicate 33 default
theorem getD_rep (n k : Nat) : (List.replicate n (default : Nd)).getD k default = default := by
  by_cases h : k < n
  · simp [List.getD, h]
  · exact getD_out (by simp; omega)
theorem getD_T0 (k : Nat) : T0.getD k default = default := getD_rep 33 k
theorem has_T0 (k : Nat) : hasB T0 k = false := by
  have : ¬ hasB T0 k = true := fun h => (hasB_nat.1 h).2.2 (by rw [getD_T0]; rfl)
  simpa using this
theorem Tok.new : Tok T0 := by
  refine ⟨by simp [T0], fun k _ => .inl (by rw [getD_T0]; rfl), fun k hk => ?_, fun k => by rw [getD_T0]; decide, fun k hk => ?_, fun k hk => ?_, fun k hk => ?_⟩
  all_goals (rw [has_T0] at hk; simp at hk)
set_option maxRecDepth 100000 in
set_option maxHeartbeats 9000000 in
theorem same_any (a b : Option Addr) (n c d : Nat) (l : List Int) (w : World) (h1 : ReadsI w a n l) (h2 : ReadsI w b n l) :
    Calls Tryz.prog 59 #[.slice a n c, .slice b n d] w fun e w' => e = .returned (.bool true) ∧ Only (fun _ => False) w w' := by
  have hm := h1.2.1; unfold maxLen at hm; have H1 := Lib.hid h1; have H2 := Lib.hid h2; clear h1 h2; go_enter Tryz.func59, Tryz.ntmps59
  go_wp2_with fail
  go_loopw [5] (fun i wr => ∃ k : Nat, k ≤ n ∧ i = .int .i64 k ∧ Hid (Only (fun _ => False) w wr)) (fun i _ => n - (intOf i).toNat)
  case atStart => exact ⟨0, by omega, rfl, Lib.hid (Only.refl _ _)⟩
  case round =>
    obtain ⟨k, hk, rfl, HO⟩ := hrel
    by_cases h8 : k < n
    · obtain ⟨b1, off1, rfl, hc1⟩ := H1.out.2.2.2.resolve_left (by omega); obtain ⟨b2, off2, rfl, hc2⟩ := H2.out.2.2.2.resolve_left (by omega); have e1 := HO.out.cell' (hc1 k h8) (fun f => f); have e2 := HO.out.cell' (hc2 k h8) (fun f => f); clear hc1 hc2; generalize l.getD k 0 = x at *; go_wp2_with fail
      go_region
      all_goals
        (go_wp2_with fail); go_roundw
        case rel => exact ⟨k + 1, by omega, by go_num, Lib.hid HO.out.drew⟩
        case measure => simp [intOf]; omega
    · obtain rfl : k = n := (by omega); (go_wp2_with fail); go_ret
      exact ⟨rfl, HO.out⟩
def TB (b : Nat) (w : World) (p : Nat) (T : List Nd) : Prop := TreeAt w p T ∧ b ≤ p ∧ Tok T
theorem TB.only {b : Nat} {w w' : World} {p : Nat} {T : List Nd} (h : TB b w p T) (ho : Only (fun _ => False) w w') : TB b w' p T := ⟨h.1.only ho (fun f => f), h.2⟩
def A1 : Nd := ⟨1, 0, 1, -1, false⟩
def A2 : Nd := ⟨2, 1, 2, 5, false⟩
def A3 : Nd := ⟨3, 2, 3, -1, false⟩
def T1 : List Nd := putT T0 A1
def T2 : List Nd := putT T1 A2
def T3 : List Nd := putT T2 A3
theorem e1 : putE T0 A1 = 0 := by decide +kernel
theorem e2 : putE T1 A2 = 0 := by decide +kernel
theorem e3 : putE T2 A3 = 0 := by decide +kernel
theorem e4 : pathL T3 3 = [1, 2, 3] := by decide +kernel
theorem e5 : cloE T3 2 = 17 := by decide +kernel
theorem e6 : hasB T3 3 = true := by decide +kernel
end Go.Proofs.YtkbaafgaaiekpaaGreat.tre
