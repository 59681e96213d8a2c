/- Several texts together: JnK, JnL, JnN, JdA. -/
import Derived.Test.YtkbaafgaaiekpaaGreatPeriodBalancesZ6
import Derived.Test.YtkbaafgaaiekpaaGreatPeriodBalancesZ11
import Derived.Test.YtkbaafgaaiekpaaGreatPeriodBalancesZ12
import Derived.Test.YtkbaafgaaiekpaaGreatPeriodBalancesZ14
import Derived.Sort.OwnSorted
namespace Go.Proofs.YtkbaafgaaiekpaaGreat.jnw
open Go.RowKit mem accm accn entw entm bigw intm
set_option linter.unusedVariables false

def trS (x : Int × Int) (l : Lg) : Option (Int × Int) := if 0 < l.a then (if isInt (x.1 + l.a) = true then some (x.1 + l.a, x.2) else none) else (if isInt (x.2 - l.a) = true then some (x.1, x.2 - l.a) else none)
def trL : List Lg → Int × Int → Option (Int × Int)
  | [], x => some x
  | l :: r, x => (trS x l).bind (trL r)
theorem trL_append : ∀ (a b : List Lg) (x : Int × Int), trL (a ++ b) x = (trL a x).bind (trL b) := by
  intro a
  induction a with
  | nil => intro b x; rfl
  | cons l r ih =>
    intro b x
    show (trS x l).bind (trL (r ++ b)) = ((trS x l).bind (trL r)).bind (trL b)
    cases trS x l with
    | none => rfl
    | some y => exact ih b y
theorem trL_take {ls : List Lg} {k : Nat} {x : Int × Int} (h : k < ls.length) {d c : Int} (hk : trL (ls.take k) x = some (d, c)) : trL (ls.take (k + 1)) x = trS (d, c) (ls.getD k default) := by
  rw [take_snocL ls k h, trL_append, hk]
  show (trS (d, c) _).bind (trL []) = _
  cases trS (d, c) (ls.getD k default) <;> rfl
theorem trL_none {ls : List Lg} {k : Nat} {x : Int × Int} (hk : trL (ls.take k) x = none) : trL ls x = none := by
  rw [← List.take_append_drop k ls, trL_append, hk]
  rfl
def Two (x : Int × Int) : Prop := isInt x.1 = true ∧ isInt x.2 = true
theorem trS_two {x y : Int × Int} {l : Lg} (hx : Two x) (h : trS x l = some y) : Two y := by
  unfold trS at h
  split at h
  · split at h
    · rename_i h2
      injection h with h
      subst h
      exact ⟨h2, hx.2⟩
    · cases h
  · split at h
    · rename_i h2
      injection h with h
      subst h
      exact ⟨hx.1, h2⟩
    · cases h
theorem trL_two : ∀ (ls : List Lg) {x y : Int × Int}, Two x → trL ls x = some y → Two y := by
  intro ls
  induction ls with
  | nil => intro x y hx h; injection h with h; subst h; exact hx
  | cons l r ih =>
    intro x y hx h
    have h : (trS x l).bind (trL r) = some y := h
    cases hs : trS x l with
    | none => rw [hs] at h; cases h
    | some z => rw [hs] at h; exact ih (trS_two hx hs) h
def trP (per : Int) : List Ps → Int × Int → Option (Int × Int)
  | [], x => some x
  | p :: r, x => if per ≠ -1 ∧ (p.per : Int) ≠ per then trP per r x else (trL p.ls x).bind (trP per r)
theorem trP_append (per : Int) : ∀ (a b : List Ps) (x : Int × Int), trP per (a ++ b) x = (trP per a x).bind (trP per b) := by
  intro a
  induction a with
  | nil => intro b x; rfl
  | cons p r ih =>
    intro b x
    show (if _ then trP per (r ++ b) x else (trL p.ls x).bind (trP per (r ++ b))) = (if _ then trP per r x else (trL p.ls x).bind (trP per r)).bind (trP per b)
    split
    · exact ih b x
    · cases trL p.ls x with
      | none => rfl
      | some y => exact ih b y
theorem trP_two (per : Int) : ∀ (L : List Ps) {x y : Int × Int}, Two x → trP per L x = some y → Two y := by
  intro L
  induction L with
  | nil => intro x y hx h; injection h with h; subst h; exact hx
  | cons p r ih =>
    intro x y hx h
    have h : (if per ≠ -1 ∧ (p.per : Int) ≠ per then trP per r x else (trL p.ls x).bind (trP per r)) = some y := h
    split at h
    · exact ih hx h
    · cases hs : trL p.ls x with
      | none => rw [hs] at h; cases h
      | some z => rw [hs] at h; exact ih (trL_two _ hx hs) h
theorem take_snocP (L : List Ps) (k : Nat) (h : k < L.length) : L.take (k + 1) = L.take k ++ [L.getD k default] := by
  rw [List.take_succ_eq_append_getElem h]
  have : L.getD k default = L[k] := by simp [List.getD, h]
  rw [this]
theorem trP_take {per : Int} {L : List Ps} {k : Nat} {x y : Int × Int} (h : k < L.length) (hk : trP per (L.take k) x = some y) : trP per (L.take (k + 1)) x = if per ≠ -1 ∧ ((L.getD k default).per : Int) ≠ per then some y else trL (L.getD k default).ls y := by
  rw [take_snocP L k h, trP_append, hk]
  show (if _ then trP per [] y else (trL _ y).bind (trP per [])) = _
  split
  · rfl
  · cases trL (L.getD k default).ls y <;> rfl
theorem trP_none {per : Int} {L : List Ps} {k : Nat} {x : Int × Int} (hk : trP per (L.take k) x = none) : trP per L x = none := by
  rw [← List.take_append_drop k L, trP_append, hk]
  rfl

def TrAt (o : Option (Int × Int)) (w : World) (e : Ending) (w' : World) : Prop := (∃ d c ok, e = .returned (.tuple #[.int .i64 d, .int .i64 c, .bool ok]) ∧ ((ok = true ∧ o = some (d, c)) ∨ (ok = false ∧ o = none))) ∧ Only (fun _ => False) w w'
set_option maxRecDepth 100000 in
set_option maxHeartbeats 2000000 in
theorem trl_any (d0 c0 : Int) (a : Option Addr) (n cap : Nat) (ls : List Lg) (w : World) (hr : ReadsL w a n ls) (hd : Two (d0, c0)) :
    Calls Tryz.prog 62 #[.int .i64 d0, .int .i64 c0, .slice a n cap] w (TrAt (trL ls (d0, c0)) w) := by
  have HR := Lib.hid hr
  have HD := Lib.hid hd
  have HLN : Hid (n = ls.length) := Lib.hid hr.1.symm
  have hnm := hr.2.1
  clear hr hd
  go_enter Tryz.func62, Tryz.ntmps62
  go_wp2_with fail
  go_loopw [14, 0, 1] (fun i d c wr => ∃ (k : Nat) (x : Int × Int), k ≤ n ∧ i = .int .i64 k ∧ d = .int .i64 x.1 ∧ c = .int .i64 x.2 ∧ Hid (trL (ls.take k) (d0, c0) = some x ∧ Two x) ∧ Hid (Only (fun _ => False) w wr)) (fun i _ _ _ => n - (intOf i).toNat)
  case atStart => exact ⟨0, (d0, c0), by omega, rfl, rfl, rfl, Lib.hid ⟨rfl, HD.out⟩, Lib.hid (Only.refl _ _)⟩
  case round =>
    obtain ⟨k, ⟨x, y⟩, hk, rfl, rfl, rfl, HT, HW⟩ := hrel
    rename World => wr
    by_cases h8 : k < n
    · obtain ⟨b, off, rfl, hc⟩ := (HR.out.only HW.out (fun _ _ f => f)).2.2.2.resolve_left (by omega)
      obtain ⟨c0', c1', c2', c3'⟩ := hc k h8
      have hin := HR.out.2.2.1 _ (getL_mem ls k (by rw [← HLN.out]; exact h8))
      have HTK := Lib.hid (trL_take (ls := ls) (k := k) (x := (d0, c0)) (by rw [← HLN.out]; exact h8) HT.out.1)
      have HTW := Lib.hid HT.out.2
      obtain ⟨⟨xk, xn, xg, xa⟩, hle⟩ : ∃ x, ls.getD k default = x := ⟨_, rfl⟩
      rw [hle] at c0' c1' c2' c3' hin HTK
      dsimp only at c0' c1' c2' c3'
      have HXA : Hid (InI xa) := Lib.hid hin.2.2.2
      have hk0 : (0 : Int) ≤ (k : Int) := by omega
      have hkm : (k : Int) < (n : Int) := by omega
      clear hc hle hin
      have HAL : Hid (∀ o, Only (fun _ => False) w (wr.alloc o)) := Lib.hid (fun o => HW.out.alloc o)
      by_cases hp : 0 < xa
      · have HAD := Lib.hid (fun w' => aadd_any x xa ((isInt_iff _).1 HTW.out.1) HXA.out w')
        by_cases hi : isInt (x + xa) = true
        · have HNX : Hid (trL (ls.take (k + 1)) (d0, c0) = some (x + xa, y)) := Lib.hid (by rw [HTK.out]; unfold trS; rw [if_pos hp, if_pos hi])
          have HE : Hid (intOr (x + xa) = x + xa) := Lib.hid (by unfold intOr; rw [hi]; rfl)
          go_wp2_with fail
          refine (HAD.out _).mono ?_
          rintro _ w5 ⟨rfl, rfl⟩
          rw [HE.out, hi]
          clear hi
          go_wp2_with fail
          go_roundw
          case rel => exact ⟨k + 1, (x + xa, y), by omega, by go_num, rfl, rfl, Lib.hid ⟨HNX.out, trL_two _ HD.out HNX.out⟩, Lib.hid (HAL.out _)⟩
          case measure => (simp [intOf]; omega)
        · have HNX : Hid (trL ls (d0, c0) = none) := Lib.hid (trL_none (k := k + 1) (by rw [HTK.out]; unfold trS; rw [if_pos hp, if_neg hi]))
          have hi : isInt (x + xa) = false := by cases h : isInt (x + xa) <;> simp_all
          go_wp2_with fail
          refine (HAD.out _).mono ?_
          rintro _ w5 ⟨rfl, rfl⟩
          rw [hi]
          clear hi
          go_wp2_with fail
          go_ret3
          exact ⟨⟨0, 0, false, rfl, .inr ⟨rfl, HNX.out⟩⟩, HAL.out _⟩
      · have HAD := Lib.hid (fun w' => asub_any y xa ((isInt_iff _).1 HTW.out.2) HXA.out w')
        by_cases hi : isInt (y - xa) = true
        · have HNX : Hid (trL (ls.take (k + 1)) (d0, c0) = some (x, y - xa)) := Lib.hid (by rw [HTK.out]; unfold trS; rw [if_neg hp, if_pos hi])
          have HE : Hid (intOr (y - xa) = y - xa) := Lib.hid (by unfold intOr; rw [hi]; rfl)
          go_wp2_with fail
          refine (HAD.out _).mono ?_
          rintro _ w5 ⟨rfl, rfl⟩
          rw [HE.out, hi]
          clear hi
          go_wp2_with fail
          go_roundw
          case rel => exact ⟨k + 1, (x, y - xa), by omega, by go_num, rfl, rfl, Lib.hid ⟨HNX.out, trL_two _ HD.out HNX.out⟩, Lib.hid (HAL.out _)⟩
          case measure => (simp [intOf]; omega)
        · have HNX : Hid (trL ls (d0, c0) = none) := Lib.hid (trL_none (k := k + 1) (by rw [HTK.out]; unfold trS; rw [if_neg hp, if_neg hi]))
          have hi : isInt (y - xa) = false := by cases h : isInt (y - xa) <;> simp_all
          go_wp2_with fail
          refine (HAD.out _).mono ?_
          rintro _ w5 ⟨rfl, rfl⟩
          rw [hi]
          clear hi
          go_wp2_with fail
          go_ret3
          exact ⟨⟨0, 0, false, rfl, .inr ⟨rfl, HNX.out⟩⟩, HAL.out _⟩
    · have hge : ¬ (k : Int) < (n : Int) := by omega
      obtain rfl : n = k := by omega
      have HNX : Hid (trL ls (d0, c0) = some (x, y)) := Lib.hid (by have h := HT.out.1; rwa [List.take_of_length_le (by rw [← HLN.out]; omega)] at h)
      go_wp2_with fail
      go_ret3
      exact ⟨⟨x, y, true, rfl, .inl ⟨rfl, HNX.out⟩⟩, HW.out⟩

def triE (op : Nat) (L : List Ps) (per : Int) : Int := if per < -1 ∨ (op : Int) < per then 7 else if (trP per L (0, 0)).isSome = true then 0 else 6
def triO (op : Nat) (L : List Ps) (per : Int) : Int × Int := if per < -1 ∨ (op : Int) < per then (0, 0) else (trP per L (0, 0)).getD (0, 0)
set_option maxRecDepth 100000 in
set_option maxHeartbeats 2000000 in
theorem trial_any {S : Nat → Prop} (p op : Nat) (v : Value) (m : Option Nat) (nn : Nat) (C : Ac → Option (List Int)) (L : List Ps) (per : Int) (w : World) (h : JnAt S w p v op m nn C L) :
    Calls Tryz.prog 25 #[.pointer (some ⟨p, 0, none⟩), .int .i64 per] w fun e w' => e = .returned (.tuple #[.int .i64 (triO op L per).1, .int .i64 (triO op L per).2, .int .i64 (triE op L per)]) ∧ Only (fun _ => False) w w' := by
  obtain ⟨a0, c0, rfl, hlc, hcm, hrd, -⟩ := h.own.reads
  have e0 := h.jc.c0
  have e1 := h.jc.c1
  have HAT := Lib.hid h
  have HRD := Lib.hid hrd
  have hlm := h.len
  unfold maxLen at hcm
  clear h hrd
  by_cases hlo : per < -1
  · have h1 : triE op L per = 7 := by unfold triE; rw [if_pos (.inl hlo)]
    have h2 : triO op L per = (0, 0) := by unfold triO; rw [if_pos (.inl hlo)]
    rw [h1, h2]
    clear h1 h2
    go_enter Tryz.func25, Tryz.ntmps25
    go_wp2_with fail
    go_ret3
    exact ⟨rfl, Only.refl _ _⟩
  · by_cases hhi : (op : Int) < per
    · have h1 : triE op L per = 7 := by unfold triE; rw [if_pos (.inr hhi)]
      have h2 : triO op L per = (0, 0) := by unfold triO; rw [if_pos (.inr hhi)]
      rw [h1, h2]
      clear h1 h2
      go_enter Tryz.func25, Tryz.ntmps25
      go_wp2_with fail
      go_ret3
      exact ⟨rfl, Only.refl _ _⟩
    · have h1 : triE op L per = if (trP per L (0, 0)).isSome = true then 0 else 6 := by unfold triE; rw [if_neg (by omega)]
      have h2 : triO op L per = (trP per L (0, 0)).getD (0, 0) := by unfold triO; rw [if_neg (by omega)]
      rw [h1, h2]
      clear h1 h2
      have HZ : Hid (Two (0, 0)) := Lib.hid ⟨by decide, by decide⟩
      obtain ⟨ER, her⟩ : ∃ E : Ending → World → Prop, E = fun e w' => e = .returned (.tuple #[.int .i64 ((trP per L (0, 0)).getD (0, 0)).1, .int .i64 ((trP per L (0, 0)).getD (0, 0)).2, .int .i64 (if (trP per L (0, 0)).isSome = true then 0 else 6)]) ∧ Only (fun _ => False) w w' := ⟨_, rfl⟩
      have HER := Lib.hid her
      have HEN : Hid (∀ w', Only (fun _ => False) w w' → trP per L (0, 0) = none → ER (.returned (.tuple #[.int .i64 0, .int .i64 0, .int .i64 6])) w') := Lib.hid (fun w' ho hn => by rw [her, hn]; exact ⟨rfl, ho⟩)
      have HES : Hid (∀ w' d c, Only (fun _ => False) w w' → trP per L (0, 0) = some (d, c) → ER (.returned (.tuple #[.int .i64 d, .int .i64 c, .int .i64 0])) w') := Lib.hid (fun w' d c ho hn => by rw [her, hn]; exact ⟨rfl, ho⟩)
      rw [← her]
      clear her HER
      go_enter Tryz.func25, Tryz.ntmps25
      go_wp2_with fail
      clear e0 e1
      go_loopw [29, 7, 8] (fun i d c wr => ∃ (k : Nat) (x : Int × Int), k ≤ L.length ∧ i = .int .i64 k ∧ d = .int .i64 x.1 ∧ c = .int .i64 x.2 ∧ Hid (trP per (L.take k) (0, 0) = some x ∧ Two x) ∧ Hid (Only (fun _ => False) w wr)) (fun i _ _ _ => L.length - (intOf i).toNat)
      case atStart => exact ⟨0, (0, 0), by omega, rfl, rfl, rfl, Lib.hid ⟨rfl, HZ.out⟩, Lib.hid (Only.refl _ _)⟩
      case round =>
        obtain ⟨k, ⟨x, y⟩, hk, rfl, rfl, rfl, HT, HW⟩ := hrel
        rename World => wr
        by_cases h8 : k < L.length
        · obtain ⟨g, rfl, hc⟩ := (HRD.out.only HW.out (fun _ _ f => f)).2.resolve_left (by omega)
          obtain ⟨c0', c1', c2'⟩ := hc k h8
          have hmem : L.getD k default ∈ L := by rw [List.getD_eq_getElem?_getD, List.getElem?_eq_getElem h8]; exact List.getElem_mem h8
          have HTK := Lib.hid (trP_take (per := per) (L := L) (k := k) (x := (0, 0)) h8 HT.out.1)
          have HTW := Lib.hid HT.out.2
          have HPS := Lib.hid (HAT.out.quiet HW.out |>.pl _ hmem)
          obtain ⟨⟨xk, xg, xl, xc, xp, xs⟩, hle⟩ : ∃ x, L.getD k default = x := ⟨_, rfl⟩
          rw [hle] at c0' c1' c2' HTK HPS
          dsimp only at c0' c1' c2'
          have hk0 : (0 : Int) ≤ (k : Int) := by omega
          have hkm : (k : Int) < (L.length : Int) := by omega
          clear hc hle hmem
          have HAL : Hid (∀ o, Only (fun _ => False) wr (wr.alloc o)) := Lib.hid (fun o => (Only.refl _ _).alloc o)
          by_cases hsk : per ≠ -1 ∧ (xp : Int) ≠ per
          · have HNX : Hid (trP per (L.take (k + 1)) (0, 0) = some (x, y)) := Lib.hid (by rw [HTK.out, if_pos hsk])
            obtain ⟨hs1, hs2⟩ := hsk
            have hb1 : (per != -1) = true := by simpa using hs1
            have hb2 : ((xp : Int) != per) = true := by simpa using hs2
            go_wp2_with fail
            go_roundw
            case rel => exact ⟨k + 1, (x, y), by omega, by go_num, rfl, rfl, Lib.hid ⟨HNX.out, HTW.out⟩, Lib.hid (HW.out.trans (HAL.out _))⟩
            case measure => (simp [intOf]; omega)
          · have HTL := Lib.hid (show trP per (L.take (k + 1)) (0, 0) = trL xs (x, y) by rw [HTK.out, if_neg hsk])
            have HCT : Hid (∀ o, Calls Tryz.prog 62 #[.int .i64 x, .int .i64 y, .slice (some ⟨xg, 0, none⟩) xl xc] (wr.alloc o) (TrAt (trL xs (x, y)) (wr.alloc o))) := Lib.hid (fun o => trl_any x y _ xl xc xs _ (HPS.out.1.only (HAL.out o) (fun _ _ f => f)) HTW.out)
            have hsk' : per = -1 ∨ (xp : Int) = per := by omega
            clear hsk HTK
            rcases hsk' with hq | hq
            · have hb1 : (per != -1) = false := by simpa using hq
              subst hq
              go_wp2_with fail
              refine (HCT.out _).mono ?_
              rintro _ w5 ⟨⟨d5, c5, ok, rfl, hok⟩, ho⟩
              have HO5 := Lib.hid (HW.out.trans ((HAL.out _).trans ho))
              clear ho
              rcases hok with ⟨rfl, hok⟩ | ⟨rfl, hok⟩
              · have HNX := Lib.hid (HTL.out.trans hok)
                clear hok
                go_wp2_with fail
                go_roundw
                case rel => exact ⟨k + 1, (d5, c5), by omega, by go_num, rfl, rfl, Lib.hid ⟨HNX.out, trP_two _ _ HZ.out HNX.out⟩, HO5⟩
                case measure => (simp [intOf]; omega)
              · have HNX := Lib.hid (trP_none (HTL.out.trans hok))
                clear hok
                go_wp2_with fail
                go_ret3
                exact HEN.out _ HO5.out HNX.out
            · subst hq
              have hb2 : ((xp : Int) != (xp : Int)) = false := by simp
              have hb1 : ((xp : Int) != -1) = true := by simp
              go_wp2_with fail
              refine (HCT.out _).mono ?_
              rintro _ w5 ⟨⟨d5, c5, ok, rfl, hok⟩, ho⟩
              have HO5 := Lib.hid (HW.out.trans ((HAL.out _).trans ho))
              clear ho
              rcases hok with ⟨rfl, hok⟩ | ⟨rfl, hok⟩
              · have HNX := Lib.hid (HTL.out.trans hok)
                clear hok
                go_wp2_with fail
                go_roundw
                case rel => exact ⟨k + 1, (d5, c5), by omega, by go_num, rfl, rfl, Lib.hid ⟨HNX.out, trP_two _ _ HZ.out HNX.out⟩, HO5⟩
                case measure => (simp [intOf]; omega)
              · have HNX := Lib.hid (trP_none (HTL.out.trans hok))
                clear hok
                go_wp2_with fail
                go_ret3
                exact HEN.out _ HO5.out HNX.out
        · have hge : ¬ (k : Int) < (L.length : Int) := by omega
          have hkl : k = L.length := by omega
          have HNX : Hid (trP per L (0, 0) = some (x, y)) := Lib.hid (by have h := HT.out.1; rwa [List.take_of_length_le (by omega)] at h)
          clear hkl
          go_wp2_with fail
          go_ret3
          exact HES.out _ _ _ HW.out HNX.out
end Go.Proofs.YtkbaafgaaiekpaaGreat.jnw
namespace Go.Proofs.YtkbaafgaaiekpaaGreat.jnw
open Go.RowKit mem accm accn entw entm bigw intm
set_option linter.unusedVariables false

theorem rep_set (x : Int) : ∀ (n k : Nat), k < n → ((List.replicate n (0 : Int)).set k x).sum = x := by
  intro n
  induction n with
  | zero => intro k h; omega
  | succ n ih =>
    intro k h
    cases k with
    | zero => simp [List.replicate_succ]
    | succ k => rw [List.replicate_succ, List.set_cons_succ, List.sum_cons, ih k (by omega)]; omega
theorem rep_set0 : ∀ (n k : Nat), (List.replicate n (0 : Int)).set k 0 = List.replicate n 0 := by
  intro n
  induction n with
  | zero => intro k; rfl
  | succ n ih =>
    intro k
    cases k with
    | zero => rfl
    | succ k => rw [List.replicate_succ, List.set_cons_succ, ih k]
def rowX (op : Nat) (x : Int) : List Int := noughts.set op x
theorem rowX_sum {op : Nat} (h : op < 32) (x : Int) : (rowX op x).sum = x := rep_set x 32 op h
theorem rowX_0 (op : Nat) : rowX op 0 = noughts := rep_set0 32 op
theorem noughts_sum : noughts.sum = 0 := by rw [← rowX_0 0, rowX_sum (by omega)]
end Go.Proofs.YtkbaafgaaiekpaaGreat.jnw
namespace Go.Proofs.YtkbaafgaaiekpaaGreat.jnw
open Go.RowKit mem accm accn entw entm acck
set_option linter.unusedVariables false

def rsum (C : Ac → Option (List Int)) (a : Ac) : Int := ((C a).getD noughts).sum
def tot (C : Ac → Option (List Int)) (K : List Ac) : Int := (K.map (rsum C)).sum
def InvK (C : Ac → Option (List Int)) (K : List Ac) (s : Int) : Prop := K.Nodup ∧ (∀ i, i ∈ K ↔ (C i).isSome = true) ∧ (tot C K - s) % 18446744073709551616 = 0
theorem rowAdd_sum {r : List Int} (hr : r.length = 32) {op : Nat} (h : op < 32) (x : Int) : ((rowAdd r op x).sum - (r.sum + x)) % 18446744073709551616 = 0 := by
  unfold rowAdd
  rw [sum_set r op _ (by omega)]
  unfold wrap64
  omega
theorem tot_ne {C : Ac → Option (List Int)} {a : Ac} {l : List Int} : ∀ {K : List Ac}, a ∉ K → tot (updA C a l) K = tot C K := by
  intro K
  induction K with
  | nil => intro _; rfl
  | cons x r ih =>
    intro h
    rw [List.mem_cons, not_or] at h
    unfold tot at ih ⊢
    rw [List.map_cons, List.map_cons, List.sum_cons, List.sum_cons, ih h.2]
    have : rsum (updA C a l) x = rsum C x := by unfold rsum updA; rw [if_neg (fun e => h.1 e.symm)]
    rw [this]
theorem tot_in {C : Ac → Option (List Int)} {a : Ac} {l : List Int} : ∀ {K : List Ac}, K.Nodup → a ∈ K → tot (updA C a l) K = tot C K - rsum C a + l.sum := by
  intro K
  induction K with
  | nil => intro _ h; cases h
  | cons x r ih =>
    intro hn h
    rw [List.nodup_cons] at hn
    by_cases e : a = x
    · subst e
      have h1 := tot_ne (C := C) (a := a) (l := l) hn.1
      unfold tot at h1 ⊢
      rw [List.map_cons, List.map_cons, List.sum_cons, List.sum_cons, h1]
      have : rsum (updA C a l) a = l.sum := by unfold rsum updA; rw [if_pos rfl]; rfl
      rw [this]
      omega
    · have h1 := ih hn.2 ((List.mem_cons.1 h).resolve_left e)
      unfold tot at h1 ⊢
      rw [List.map_cons, List.map_cons, List.sum_cons, List.sum_cons, h1]
      have : rsum (updA C a l) x = rsum C x := by unfold rsum updA; rw [if_neg (fun e2 => e e2.symm)]
      rw [this]
      omega
theorem InvK.upd {C : Ac → Option (List Int)} {K : List Ac} {s : Int} (h : InvK C K s) (hrow : ∀ a, ((C a).getD noughts).length = 32) {op : Nat} (hop : op < 32) (a : Ac) (x : Int) : ∃ K', InvK (updA C a (rowAdd ((C a).getD noughts) op x)) K' (s + x) := by
  obtain ⟨h1, h2, h3⟩ := h
  have hs := rowAdd_sum (hrow a) hop x
  have hmem : ∀ i, ((updA C a (rowAdd ((C a).getD noughts) op x)) i).isSome = true ↔ i = a ∨ (C i).isSome = true := by
    intro i
    unfold updA
    by_cases e : i = a
    · rw [if_pos e]; simp [e]
    · rw [if_neg e]; simp [e]
  by_cases ha : a ∈ K
  · refine ⟨K, h1, fun i => ?_, ?_⟩
    · rw [hmem, h2]
      constructor
      · exact .inr
      · rintro (e | e)
        · rw [e]; exact (h2 a).1 ha
        · exact e
    · rw [tot_in h1 ha]
      have : rsum C a = ((C a).getD noughts).sum := rfl
      omega
  · refine ⟨a :: K, List.nodup_cons.2 ⟨ha, h1⟩, fun i => ?_, ?_⟩
    · rw [hmem, List.mem_cons, h2]
    · have hn : C a = none := by
        cases hc : C a with
        | none => rfl
        | some l => exact absurd ((h2 a).2 (by rw [hc]; rfl)) ha
      have e1 : tot (updA C a (rowAdd ((C a).getD noughts) op x)) (a :: K) = (rowAdd ((C a).getD noughts) op x).sum + tot C K := by
        have h4 := tot_ne (C := C) (a := a) (l := rowAdd ((C a).getD noughts) op x) ha
        unfold tot at h4 ⊢
        rw [List.map_cons, List.sum_cons, h4]
        have : rsum (updA C a (rowAdd ((C a).getD noughts) op x)) a = (rowAdd ((C a).getD noughts) op x).sum := by unfold rsum; unfold updA; rw [if_pos rfl]; rfl
        rw [this]
      have e2 : ((C a).getD noughts).sum = 0 := by rw [hn]; exact noughts_sum
      rw [e1]
      omega
theorem updA_len {C : Ac → Option (List Int)} (h : ∀ a, ((C a).getD noughts).length = 32) (b : Ac) (op : Nat) (x : Int) : ∀ a, (((updA C b (rowAdd ((C b).getD noughts) op x)) a).getD noughts).length = 32 := by
  intro a
  unfold updA
  by_cases e : a = b
  · rw [if_pos e]; simp [rowAdd, h b]
  · rw [if_neg e]; exact h a
def amts (ls : List Lg) : Int := (ls.map (·.a)).sum
theorem InvK.add {op : Nat} (hop : op < 32) : ∀ (ls : List Lg) {C : Ac → Option (List Int)} {K : List Ac} {s : Int}, InvK C K s → (∀ a, ((C a).getD noughts).length = 32) → ∃ K', InvK (addC C op ls) K' (s + amts ls) := by
  intro ls
  induction ls with
  | nil => intro C K s h _; exact ⟨K, by simpa [amts, addC] using h⟩
  | cons l r ih =>
    intro C K s h hr
    obtain ⟨K1, h1⟩ := h.upd hr hop (lgA l) l.a
    obtain ⟨K2, h2⟩ := ih h1 (updA_len hr (lgA l) op l.a)
    exact ⟨K2, by
      have e : s + amts (l :: r) = s + l.a + amts r := by simp [amts]; omega
      rw [e]; exact h2⟩
theorem InvK.nil : InvK (fun _ => none) [] 0 := ⟨List.nodup_nil, fun i => by simp, by simp [tot]⟩
def InvR (C : Ac → Option (List Int)) (op : Nat) : Prop := ∀ a p, op < p → ((C a).getD noughts).getD p 0 = 0
theorem rep_get (n p : Nat) : (List.replicate n (0 : Int)).getD p 0 = 0 := by
  simp only [List.getD, List.getElem?_replicate]
  split <;> rfl
theorem InvR.nil (op : Nat) : InvR (fun _ => none) op := fun a p _ => rep_get 32 p
theorem InvR.add {op : Nat} : ∀ (ls : List Lg) {C : Ac → Option (List Int)}, InvR C op → InvR (addC C op ls) op := by
  intro ls
  induction ls with
  | nil => intro C h; exact h
  | cons l r ih =>
    intro C h
    refine ih (fun a p hp => ?_)
    unfold updA
    by_cases e : a = lgA l
    · rw [if_pos e]
      show (rowAdd ((C (lgA l)).getD noughts) op l.a).getD p 0 = 0
      unfold rowAdd
      have := h (lgA l) p hp
      simp only [List.getD] at this ⊢
      rw [List.getElem?_set_ne (by omega)]
      exact this
    · rw [if_neg e]; exact h a p hp
theorem InvR.close {C : Ac → Option (List Int)} {op : Nat} (h : InvR C op) : InvR C (op + 1) := fun a p hp => h a p (by omega)
theorem trS_diff {x y : Int × Int} {l : Lg} (h : trS x l = some y) : y.1 - y.2 = x.1 - x.2 + l.a := by
  unfold trS at h
  split at h
  · split at h
    · injection h with h; subst h; show x.1 + l.a - x.2 = _; omega
    · cases h
  · split at h
    · injection h with h; subst h; show x.1 - (x.2 - l.a) = _; omega
    · cases h
theorem trL_diff : ∀ (ls : List Lg) {x y : Int × Int}, trL ls x = some y → y.1 - y.2 = x.1 - x.2 + amts ls := by
  intro ls
  induction ls with
  | nil => intro x y h; injection h with h; subst h; simp [amts]
  | cons l r ih =>
    intro x y h
    have h : (trS x l).bind (trL r) = some y := h
    cases hs : trS x l with
    | none => rw [hs] at h; cases h
    | some z =>
      rw [hs] at h
      have h1 := trS_diff hs
      have h2 := ih h
      have e : amts (l :: r) = l.a + amts r := by simp [amts]
      rw [e]; omega
theorem trP_diff (per : Int) : ∀ (L : List Ps), (∀ x ∈ L, amts x.ls = 0) → ∀ {x y : Int × Int}, trP per L x = some y → y.1 - y.2 = x.1 - x.2 := by
  intro L
  induction L with
  | nil => intro _ x y h; injection h with h; subst h; rfl
  | cons p r ih =>
    intro hz x y h
    have h : (if per ≠ -1 ∧ (p.per : Int) ≠ per then trP per r x else (trL p.ls x).bind (trP per r)) = some y := h
    split at h
    · exact ih (fun x hx => hz x (List.mem_cons_of_mem _ hx)) h
    · cases hs : trL p.ls x with
      | none => rw [hs] at h; cases h
      | some z =>
        rw [hs] at h
        have h1 := trL_diff _ hs
        have h2 := ih (fun x hx => hz x (List.mem_cons_of_mem _ hx)) h
        have h3 := hz p (by simp)
        omega
end Go.Proofs.YtkbaafgaaiekpaaGreat.jnw
namespace Go.Proofs.YtkbaafgaaiekpaaGreat.jnw
open Go.RowKit mem accm accn entw entm acck
set_option linter.unusedVariables false

structure Es where
  kd : Int
  a : Option Addr
  n : Nat
  c : Nat
  per : Nat
  ls : List Lg
deriving Inhabited
def encE (x : Es) : List Value := [.int .i64 x.kd, .slice x.a x.n x.c]
def ev (l : List Es) : List Value := l.flatMap encE
theorem ev_cons (x : Es) (r : List Es) : ev (x :: r) = encE x ++ ev r := by simp [ev]
theorem ev_append (a b : List Es) : ev (a ++ b) = ev a ++ ev b := by simp [ev]
theorem ev_one (l : List Es) : ∀ u ∈ ev l, u.oneCell' = true := by
  intro u hu
  simp only [ev, List.mem_flatMap] at hu
  obtain ⟨x, _, hx⟩ := hu
  simp [encE] at hx
  rcases hx with rfl | rfl <;> rfl
theorem ev_drop : ∀ (l : List Es) (k : Nat), (ev l).drop (k * 2) = ev (l.drop k) := by
  intro l
  induction l with
  | nil => intro k; simp [ev]
  | cons x r ih =>
    intro k
    cases k with
    | zero => simp [ev]
    | succ k =>
      have e : (k + 1) * 2 = k * 2 + 2 := by omega
      rw [e, List.drop_succ_cons, ev_cons, ← ih k]
      rfl
theorem ev_get (l : List Es) (i c : Nat) (hi : i < l.length) (hc : c < 2) : (ev l)[i * 2 + c]? = (encE (l.getD i default))[c]? := by
  have h : l.drop i = l.getD i default :: l.drop (i + 1) := by rw [List.drop_eq_getElem_cons hi]; simp [List.getD, hi]
  rw [← List.getElem?_drop, ev_drop, h, ev_cons, List.getElem?_append_left (by show c < 2; exact hc)]
def OwnE (w : World) (v : Value) (l : List Es) : Prop := w.ownsRow 0 75 2 v l.length (ev l)
def whens (l : List Es) : List Int := List.map (fun x : Es => (x.per : Int)) l
def OwnN (w : World) (v : Value) (l : List Int) : Prop := w.ownsRow 0 3 1 v l.length (iv l)
theorem own_lt {w : World} {base n size : Nat} {e : TypeId} {v : Value} {xs : List Value} (h : w.ownsRow base e size v n xs) {q : Nat} (hq : v.ownBlock = some q) : q < w.heap.size := by
  rcases h.2 with ⟨hv, hn⟩ | ⟨g, cap, cur, hv, hg, hh, _⟩
  · rw [hv] at hq; simp [Value.ownBlock] at hq
  · rw [hv] at hq
    have e : g = q := by simpa [Value.ownBlock] using hq
    rw [← e]; exact heap_lt hh
theorem own_form {w : World} {base n size : Nat} {e : TypeId} {v : Value} {xs : List Value} (h : w.ownsRow base e size v n xs) : (v = .slice none 0 0 ∧ n = 0) ∨ ∃ g cap, v = .slice (some ⟨g, 0, none⟩) n cap ∧ g < w.heap.size ∧ n ≤ cap ∧ cap ≤ maxLen := by
  rcases h.2 with ⟨hv, hn⟩ | ⟨g, cap, cur, hv, hg, hh, hc, hm, _⟩
  · exact .inl ⟨hv, hn⟩
  · exact .inr ⟨g, cap, hv, heap_lt hh, hc, hm⟩
theorem OwnE.cell {w : World} {g n cap : Nat} {l : List Es} (h : OwnE w (.slice (some ⟨g, 0, none⟩) n cap) l) {i : Nat} (hi : i < l.length) (hn : n = l.length) : w.cell? ⟨g, i * 2, none⟩ = some (.int .i64 (l.getD i default).kd) ∧ w.cell? ⟨g, i * 2 + 1, none⟩ = some (.slice (l.getD i default).a (l.getD i default).n (l.getD i default).c) := by
  subst hn
  have e : ∀ c, c < 2 → w.cell? ⟨g, i * 2 + c, none⟩ = (encE (l.getD i default))[c]? := fun c hc => by
    have h1 : w.ownsRow 0 75 2 (.slice (some ⟨g, 0, none⟩) l.length cap) l.length (ev l) := h
    rw [h1.cellAt (i * 2 + c) (by omega), ev_get l i c hi hc]
  exact ⟨e 0 (by omega), e 1 (by omega)⟩
theorem OwnN.cell {w : World} {g n cap : Nat} {l : List Int} (h : OwnN w (.slice (some ⟨g, 0, none⟩) n cap) l) {i : Nat} (hi : i < l.length) (hn : n = l.length) : w.cell? ⟨g, i, none⟩ = some (.int .i64 (l.getD i 0)) := by
  subst hn
  have h1 : w.ownsRow 0 3 1 (.slice (some ⟨g, 0, none⟩) l.length cap) l.length (iv l) := h
  rw [h1.cellAt i (by omega)]
  simp [iv, List.getD, hi]
structure DjAt (S : Nat → Prop) (w : World) (p : Nat) (vL vW : Value) (op : Nat) (D : List Es) : Prop where
  c0 : w.cell? ⟨p, 0, none⟩ = some vL
  c1 : w.cell? ⟨p, 1, none⟩ = some vW
  c2 : w.cell? ⟨p, 2, none⟩ = some (.int .i64 (op : Int))
  f0 : w.frozen? ⟨p, 0, none⟩ = false
  f1 : w.frozen? ⟨p, 1, none⟩ = false
  f2 : w.frozen? ⟨p, 2, none⟩ = false
  le : op < 32
  oL : OwnE w vL D
  oW : OwnN w vW (whens D)
  sp : S p
  sL : ∀ q, vL.ownBlock = some q → S q ∧ q ≠ p
  sW : ∀ q, vW.ownBlock = some q → S q ∧ q ≠ p ∧ vL.ownBlock ≠ some q
  ls : ∀ x ∈ D, ReadsL w x.a x.n x.ls ∧ chk x.kd x.ls = 0 ∧ x.per ≤ op ∧ ∀ y, x.a = some y → S y.block ∧ y.block ≠ p ∧ vL.ownBlock ≠ some y.block ∧ vW.ownBlock ≠ some y.block
  len : D.length ≤ 16384
theorem DjAt.lt {S : Nat → Prop} {w : World} {p : Nat} {vL vW : Value} {op : Nat} {D : List Es} (h : DjAt S w p vL vW op D) : p < w.heap.size := World.block_lt_of_cell? w _ h.c0
theorem DjAt.only {S T : Nat → Prop} {w w' : World} {p : Nat} {vL vW : Value} {op : Nat} {D : List Es} (h : DjAt S w p vL vW op D) (ho : Only T w w') (hT : ∀ q, S q → ¬ T q) : DjAt S w' p vL vW op D :=
  ⟨ho.cell' h.c0 (hT _ h.sp), ho.cell' h.c1 (hT _ h.sp), ho.cell' h.c2 (hT _ h.sp), (ho.frozen (p := ⟨p, 0, none⟩) h.lt (hT _ h.sp)).trans h.f0, (ho.frozen (p := ⟨p, 1, none⟩) h.lt (hT _ h.sp)).trans h.f1, (ho.frozen (p := ⟨p, 2, none⟩) h.lt (hT _ h.sp)).trans h.f2, h.le,
    owns_only ho h.oL (fun k e => hT _ (h.sL k e).1), owns_only ho h.oW (fun k e => hT _ (h.sW k e).1), h.sp, h.sL, h.sW, fun x hx => ⟨(h.ls x hx).1.only ho (fun y e => hT _ ((h.ls x hx).2.2.2 y e).1), (h.ls x hx).2⟩, h.len⟩
theorem DjAt.quiet {S : Nat → Prop} {w w' : World} {p : Nat} {vL vW : Value} {op : Nat} {D : List Es} (h : DjAt S w p vL vW op D) (ho : Only (fun _ => False) w w') : DjAt S w' p vL vW op D := h.only ho (fun _ _ f => f)
theorem DjAt.mono {S T : Nat → Prop} {w : World} {p : Nat} {vL vW : Value} {op : Nat} {D : List Es} (h : DjAt S w p vL vW op D) (hT : ∀ q, S q → T q) : DjAt T w p vL vW op D :=
  ⟨h.c0, h.c1, h.c2, h.f0, h.f1, h.f2, h.le, h.oL, h.oW, hT _ h.sp, fun q e => ⟨hT _ (h.sL q e).1, (h.sL q e).2⟩, fun q e => ⟨hT _ (h.sW q e).1, (h.sW q e).2⟩, fun x hx => ⟨(h.ls x hx).1, (h.ls x hx).2.1, (h.ls x hx).2.2.1, fun y e => ⟨hT _ ((h.ls x hx).2.2.2 y e).1, ((h.ls x hx).2.2.2 y e).2⟩⟩, h.len⟩

theorem same_any (x y : Lg) (w : World) : Calls Tryz.prog 112 #[.agg #[.int .i64 x.k, .int .i64 x.n, .int .i64 x.g, .int .i64 x.a], .agg #[.int .i64 y.k, .int .i64 y.n, .int .i64 y.g, .int .i64 y.a]] w fun e w' => e = .returned (.bool (decide (lgA x = lgA y))) ∧ Only (fun _ => False) w w' := by
  have HO : Hid (∀ o1 o2, Only (fun _ => False) w ((w.alloc o1).alloc o2)) := Lib.hid (fun o1 o2 => ((Only.refl _ w).alloc o1).alloc o2)
  obtain ⟨xk, xn, xg, xa⟩ := x
  obtain ⟨yk, yn, yg, ya⟩ := y
  have hd : decide (lgA ⟨xk, xn, xg, xa⟩ = lgA ⟨yk, yn, yg, ya⟩) = ((xk == yk) && ((xn == yn) && (xg == yg))) := by
    unfold lgA
    rw [Bool.eq_iff_iff]
    simp
  rw [hd]
  dsimp only
  clear hd
  by_cases h1 : xk = yk
  · subst h1
    have b1 : (xk == xk) = true := by simp
    by_cases h2 : xn = yn
    · subst h2
      have b2 : (xn == xn) = true := by simp
      obtain ⟨b3, hb3⟩ : ∃ b, (xg == yg) = b := ⟨_, rfl⟩
      rw [b1, b2, hb3]
      go_enter Tryz.func112, Tryz.ntmps112
      go_wp2_with fail
      go_ret
      exact ⟨by simp, HO.out _ _⟩
    · have b2 : (xn == yn) = false := by simpa using h2
      rw [b1, b2]
      go_enter Tryz.func112, Tryz.ntmps112
      go_wp2_with fail
      go_ret
      exact ⟨by simp, HO.out _ _⟩
  · have b1 : (xk == yk) = false := by simpa using h1
    rw [b1]
    go_enter Tryz.func112, Tryz.ntmps112
    go_wp2_with fail
    go_ret
    exact ⟨by simp, HO.out _ _⟩

def legSum (a : Ac) : List Lg → Int
  | [] => 0
  | l :: r => (if lgA l = a then l.a else 0) + legSum a r
theorem legSum_append (a : Ac) : ∀ (x y : List Lg), legSum a (x ++ y) = legSum a x + legSum a y := by
  intro x
  induction x with
  | nil => intro y; simp [legSum]
  | cons l r ih => intro y; show (if _ then _ else _) + legSum a (r ++ y) = (if _ then _ else _) + legSum a r + legSum a y; rw [ih]; omega
def movD (a : Ac) (per : Int) : List Es → Int
  | [] => 0
  | x :: r => (if 0 ≤ per ∧ (x.per : Int) ≠ per then 0 else legSum a x.ls) + movD a per r
theorem movD_append (a : Ac) (per : Int) : ∀ (x y : List Es), movD a per (x ++ y) = movD a per x + movD a per y := by
  intro x
  induction x with
  | nil => intro y; simp [movD]
  | cons l r ih => intro y; show (if _ then _ else _) + movD a per (r ++ y) = (if _ then _ else _) + movD a per r + movD a per y; rw [ih]; omega
theorem take_snocE (L : List Es) (k : Nat) (h : k < L.length) : L.take (k + 1) = L.take k ++ [L.getD k default] := by
  rw [List.take_succ_eq_append_getElem h]
  have : L.getD k default = L[k] := by simp [List.getD, h]
  rw [this]
theorem movD_take {a : Ac} {per : Int} {D : List Es} {k : Nat} (h : k < D.length) : movD a per (D.take (k + 1)) = movD a per (D.take k) + (if 0 ≤ per ∧ ((D.getD k default).per : Int) ≠ per then 0 else legSum a (D.getD k default).ls) := by
  rw [take_snocE D k h, movD_append]
  show _ + ((if _ then _ else _) + movD a per []) = _
  simp [movD]
theorem legSum_take {a : Ac} {ls : List Lg} {k : Nat} (h : k < ls.length) : legSum a (ls.take (k + 1)) = legSum a (ls.take k) + (if lgA (ls.getD k default) = a then (ls.getD k default).a else 0) := by
  rw [take_snocL ls k h, legSum_append]
  show _ + ((if _ then _ else _) + legSum a []) = _
  simp [legSum]
end Go.Proofs.YtkbaafgaaiekpaaGreat.jnw
