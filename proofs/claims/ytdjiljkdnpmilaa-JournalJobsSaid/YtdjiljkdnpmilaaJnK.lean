/- The journal's Trial. -/
import Derived.Test.YtdjiljkdnpmilaaJnH
import Derived.Test.YtdjiljkdnpmilaaBigInt
namespace Go.Proofs.Ytdjiljkdnpmilaa.jnw
open Go.RowKit mem accm accn entw entm bigw intm
set_option linter.unusedVariables false

/-- a leg more on its side -/
def trS (x : Int × Int) (l : Lg) : Option (Int × Int) := if 0 < l.a then (if isInt (x.1 + l.a) = true then some (x.1 + l.a, x.2) else none) else (if isInt (x.2 - l.a) = true then some (x.1, x.2 - l.a) else none)
def trL : List Lg → Int × Int → Option (Int × Int)
  | [], x => some x
  | l :: r, x => (trS x l).bind (trL r)
theorem trL_append : ∀ (a b : List Lg) (x : Int × Int), trL (a ++ b) x = (trL a x).bind (trL b) := by
  intro a
  induction a with
  | nil => intro b x; rfl
  | cons l r ih =>
    intro b x
    show (trS x l).bind (trL (r ++ b)) = ((trS x l).bind (trL r)).bind (trL b)
    cases trS x l with
    | none => rfl
    | some y => exact ih b y
theorem trL_take {ls : List Lg} {k : Nat} {x : Int × Int} (h : k < ls.length) {d c : Int} (hk : trL (ls.take k) x = some (d, c)) : trL (ls.take (k + 1)) x = trS (d, c) (ls.getD k default) := by
  rw [take_snocL ls k h, trL_append, hk]
  show (trS (d, c) _).bind (trL []) = _
  cases trS (d, c) (ls.getD k default) <;> rfl
theorem trL_none {ls : List Lg} {k : Nat} {x : Int × Int} (hk : trL (ls.take k) x = none) : trL ls x = none := by
  rw [← List.take_append_drop k ls, trL_append, hk]
  rfl
def Two (x : Int × Int) : Prop := isInt x.1 = true ∧ isInt x.2 = true
theorem trS_two {x y : Int × Int} {l : Lg} (hx : Two x) (h : trS x l = some y) : Two y := by
  unfold trS at h
  split at h
  · split at h
    · rename_i h2
      injection h with h
      subst h
      exact ⟨h2, hx.2⟩
    · cases h
  · split at h
    · rename_i h2
      injection h with h
      subst h
      exact ⟨hx.1, h2⟩
    · cases h
theorem trL_two : ∀ (ls : List Lg) {x y : Int × Int}, Two x → trL ls x = some y → Two y := by
  intro ls
  induction ls with
  | nil => intro x y hx h; injection h with h; subst h; exact hx
  | cons l r ih =>
    intro x y hx h
    have h : (trS x l).bind (trL r) = some y := h
    cases hs : trS x l with
    | none => rw [hs] at h; cases h
    | some z => rw [hs] at h; exact ih (trS_two hx hs) h
/-- the entries of a period, or of all -/
def trP (per : Int) : List Ps → Int × Int → Option (Int × Int)
  | [], x => some x
  | p :: r, x => if per ≠ -1 ∧ (p.per : Int) ≠ per then trP per r x else (trL p.ls x).bind (trP per r)
theorem trP_append (per : Int) : ∀ (a b : List Ps) (x : Int × Int), trP per (a ++ b) x = (trP per a x).bind (trP per b) := by
  intro a
  induction a with
  | nil => intro b x; rfl
  | cons p r ih =>
    intro b x
    show (if _ then trP per (r ++ b) x else (trL p.ls x).bind (trP per (r ++ b))) = (if _ then trP per r x else (trL p.ls x).bind (trP per r)).bind (trP per b)
    split
    · exact ih b x
    · cases trL p.ls x with
      | none => rfl
      | some y => exact ih b y
theorem trP_two (per : Int) : ∀ (L : List Ps) {x y : Int × Int}, Two x → trP per L x = some y → Two y := by
  intro L
  induction L with
  | nil => intro x y hx h; injection h with h; subst h; exact hx
  | cons p r ih =>
    intro x y hx h
    have h : (if per ≠ -1 ∧ (p.per : Int) ≠ per then trP per r x else (trL p.ls x).bind (trP per r)) = some y := h
    split at h
    · exact ih hx h
    · cases hs : trL p.ls x with
      | none => rw [hs] at h; cases h
      | some z => rw [hs] at h; exact ih (trL_two _ hx hs) h
theorem take_snocP (L : List Ps) (k : Nat) (h : k < L.length) : L.take (k + 1) = L.take k ++ [L.getD k default] := by
  rw [List.take_succ_eq_append_getElem h]
  have : L.getD k default = L[k] := by simp [List.getD, h]
  rw [this]
theorem trP_take {per : Int} {L : List Ps} {k : Nat} {x y : Int × Int} (h : k < L.length) (hk : trP per (L.take k) x = some y) : trP per (L.take (k + 1)) x = if per ≠ -1 ∧ ((L.getD k default).per : Int) ≠ per then some y else trL (L.getD k default).ls y := by
  rw [take_snocP L k h, trP_append, hk]
  show (if _ then trP per [] y else (trL _ y).bind (trP per [])) = _
  split
  · rfl
  · cases trL (L.getD k default).ls y <;> rfl
theorem trP_none {per : Int} {L : List Ps} {k : Nat} {x : Int × Int} (hk : trP per (L.take k) x = none) : trP per L x = none := by
  rw [← List.take_append_drop k L, trP_append, hk]
  rfl

/-- what trial answers -/
def TrAt (o : Option (Int × Int)) (w : World) (e : Ending) (w' : World) : Prop := (∃ d c ok, e = .returned (.tuple #[.int .i64 d, .int .i64 c, .bool ok]) ∧ ((ok = true ∧ o = some (d, c)) ∨ (ok = false ∧ o = none))) ∧ Only (fun _ => False) w w'
set_option maxRecDepth 100000 in
set_option maxHeartbeats 2000000 in
theorem trl_any (d0 c0 : Int) (a : Option Addr) (n cap : Nat) (ls : List Lg) (w : World) (hr : ReadsL w a n ls) (hd : Two (d0, c0)) :
    Calls Try.prog 36 #[.int .i64 d0, .int .i64 c0, .slice a n cap] w (TrAt (trL ls (d0, c0)) w) := by
  have HR := Lib.hid hr
  have HD := Lib.hid hd
  have HLN : Hid (n = ls.length) := Lib.hid hr.1.symm
  have hnm := hr.2.1
  clear hr hd
  go_enter Try.func36, Try.ntmps36
  go_wp2_with fail
  go_loopw [14, 0, 1] (fun i d c wr => ∃ (k : Nat) (x : Int × Int), k ≤ n ∧ i = .int .i64 k ∧ d = .int .i64 x.1 ∧ c = .int .i64 x.2 ∧ Hid (trL (ls.take k) (d0, c0) = some x ∧ Two x) ∧ Hid (Only (fun _ => False) w wr)) (fun i _ _ _ => n - (intOf i).toNat)
  case atStart => exact ⟨0, (d0, c0), by omega, rfl, rfl, rfl, Lib.hid ⟨rfl, HD.out⟩, Lib.hid (Only.refl _ _)⟩
  case round =>
    obtain ⟨k, ⟨x, y⟩, hk, rfl, rfl, rfl, HT, HW⟩ := hrel
    rename World => wr
    by_cases h8 : k < n
    · obtain ⟨b, off, rfl, hc⟩ := (HR.out.only HW.out (fun _ _ f => f)).2.2.2.resolve_left (by omega)
      obtain ⟨c0', c1', c2', c3'⟩ := hc k h8
      have hin := HR.out.2.2.1 _ (getL_mem ls k (by rw [← HLN.out]; exact h8))
      have HTK := Lib.hid (trL_take (ls := ls) (k := k) (x := (d0, c0)) (by rw [← HLN.out]; exact h8) HT.out.1)
      have HTW := Lib.hid HT.out.2
      obtain ⟨⟨xk, xn, xg, xa⟩, hle⟩ : ∃ x, ls.getD k default = x := ⟨_, rfl⟩
      rw [hle] at c0' c1' c2' c3' hin HTK
      dsimp only at c0' c1' c2' c3'
      have HXA : Hid (InI xa) := Lib.hid hin.2.2.2
      have hk0 : (0 : Int) ≤ (k : Int) := by omega
      have hkm : (k : Int) < (n : Int) := by omega
      clear hc hle hin
      have HAL : Hid (∀ o, Only (fun _ => False) w (wr.alloc o)) := Lib.hid (fun o => HW.out.alloc o)
      by_cases hp : 0 < xa
      · have HAD := Lib.hid (fun w' => aadd_any x xa ((isInt_iff _).1 HTW.out.1) HXA.out w')
        by_cases hi : isInt (x + xa) = true
        · have HNX : Hid (trL (ls.take (k + 1)) (d0, c0) = some (x + xa, y)) := Lib.hid (by rw [HTK.out]; unfold trS; rw [if_pos hp, if_pos hi])
          have HE : Hid (intOr (x + xa) = x + xa) := Lib.hid (by unfold intOr; rw [hi]; rfl)
          go_wp2_with fail
          refine (HAD.out _).mono ?_
          rintro _ w5 ⟨rfl, rfl⟩
          rw [HE.out, hi]
          clear hi
          go_wp2_with fail
          go_roundw
          case rel => exact ⟨k + 1, (x + xa, y), by omega, by go_num, rfl, rfl, Lib.hid ⟨HNX.out, trL_two _ HD.out HNX.out⟩, Lib.hid (HAL.out _)⟩
          case measure => (simp [intOf]; omega)
        · have HNX : Hid (trL ls (d0, c0) = none) := Lib.hid (trL_none (k := k + 1) (by rw [HTK.out]; unfold trS; rw [if_pos hp, if_neg hi]))
          have hi : isInt (x + xa) = false := by cases h : isInt (x + xa) <;> simp_all
          go_wp2_with fail
          refine (HAD.out _).mono ?_
          rintro _ w5 ⟨rfl, rfl⟩
          rw [hi]
          clear hi
          go_wp2_with fail
          go_ret3
          exact ⟨⟨0, 0, false, rfl, .inr ⟨rfl, HNX.out⟩⟩, HAL.out _⟩
      · have HAD := Lib.hid (fun w' => asub_any y xa ((isInt_iff _).1 HTW.out.2) HXA.out w')
        by_cases hi : isInt (y - xa) = true
        · have HNX : Hid (trL (ls.take (k + 1)) (d0, c0) = some (x, y - xa)) := Lib.hid (by rw [HTK.out]; unfold trS; rw [if_neg hp, if_pos hi])
          have HE : Hid (intOr (y - xa) = y - xa) := Lib.hid (by unfold intOr; rw [hi]; rfl)
          go_wp2_with fail
          refine (HAD.out _).mono ?_
          rintro _ w5 ⟨rfl, rfl⟩
          rw [HE.out, hi]
          clear hi
          go_wp2_with fail
          go_roundw
          case rel => exact ⟨k + 1, (x, y - xa), by omega, by go_num, rfl, rfl, Lib.hid ⟨HNX.out, trL_two _ HD.out HNX.out⟩, Lib.hid (HAL.out _)⟩
          case measure => (simp [intOf]; omega)
        · have HNX : Hid (trL ls (d0, c0) = none) := Lib.hid (trL_none (k := k + 1) (by rw [HTK.out]; unfold trS; rw [if_neg hp, if_neg hi]))
          have hi : isInt (y - xa) = false := by cases h : isInt (y - xa) <;> simp_all
          go_wp2_with fail
          refine (HAD.out _).mono ?_
          rintro _ w5 ⟨rfl, rfl⟩
          rw [hi]
          clear hi
          go_wp2_with fail
          go_ret3
          exact ⟨⟨0, 0, false, rfl, .inr ⟨rfl, HNX.out⟩⟩, HAL.out _⟩
    · have hge : ¬ (k : Int) < (n : Int) := by omega
      obtain rfl : n = k := by omega
      have HNX : Hid (trL ls (d0, c0) = some (x, y)) := Lib.hid (by have h := HT.out.1; rwa [List.take_of_length_le (by rw [← HLN.out]; omega)] at h)
      go_wp2_with fail
      go_ret3
      exact ⟨⟨x, y, true, rfl, .inl ⟨rfl, HNX.out⟩⟩, HW.out⟩

def triE (op : Nat) (L : List Ps) (per : Int) : Int := if per < -1 ∨ (op : Int) < per then 7 else if (trP per L (0, 0)).isSome = true then 0 else 6
def triO (op : Nat) (L : List Ps) (per : Int) : Int × Int := if per < -1 ∨ (op : Int) < per then (0, 0) else (trP per L (0, 0)).getD (0, 0)
set_option maxRecDepth 100000 in
set_option maxHeartbeats 2000000 in
theorem trial_any {S : Nat → Prop} (p op : Nat) (v : Value) (m : Option Nat) (nn : Nat) (C : Ac → Option (List Int)) (L : List Ps) (per : Int) (w : World) (h : JnAt S w p v op m nn C L) :
    Calls Try.prog 16 #[.pointer (some ⟨p, 0, none⟩), .int .i64 per] w fun e w' => e = .returned (.tuple #[.int .i64 (triO op L per).1, .int .i64 (triO op L per).2, .int .i64 (triE op L per)]) ∧ Only (fun _ => False) w w' := by
  obtain ⟨a0, c0, rfl, hlc, hcm, hrd, -⟩ := h.own.reads
  have e0 := h.jc.c0
  have e1 := h.jc.c1
  have HAT := Lib.hid h
  have HRD := Lib.hid hrd
  have hlm := h.len
  unfold maxLen at hcm
  clear h hrd
  by_cases hlo : per < -1
  · have h1 : triE op L per = 7 := by unfold triE; rw [if_pos (.inl hlo)]
    have h2 : triO op L per = (0, 0) := by unfold triO; rw [if_pos (.inl hlo)]
    rw [h1, h2]
    clear h1 h2
    go_enter Try.func16, Try.ntmps16
    go_wp2_with fail
    go_ret3
    exact ⟨rfl, Only.refl _ _⟩
  · by_cases hhi : (op : Int) < per
    · have h1 : triE op L per = 7 := by unfold triE; rw [if_pos (.inr hhi)]
      have h2 : triO op L per = (0, 0) := by unfold triO; rw [if_pos (.inr hhi)]
      rw [h1, h2]
      clear h1 h2
      go_enter Try.func16, Try.ntmps16
      go_wp2_with fail
      go_ret3
      exact ⟨rfl, Only.refl _ _⟩
    · have h1 : triE op L per = if (trP per L (0, 0)).isSome = true then 0 else 6 := by unfold triE; rw [if_neg (by omega)]
      have h2 : triO op L per = (trP per L (0, 0)).getD (0, 0) := by unfold triO; rw [if_neg (by omega)]
      rw [h1, h2]
      clear h1 h2
      have HZ : Hid (Two (0, 0)) := Lib.hid ⟨by decide, by decide⟩
      obtain ⟨ER, her⟩ : ∃ E : Ending → World → Prop, E = fun e w' => e = .returned (.tuple #[.int .i64 ((trP per L (0, 0)).getD (0, 0)).1, .int .i64 ((trP per L (0, 0)).getD (0, 0)).2, .int .i64 (if (trP per L (0, 0)).isSome = true then 0 else 6)]) ∧ Only (fun _ => False) w w' := ⟨_, rfl⟩
      have HER := Lib.hid her
      have HEN : Hid (∀ w', Only (fun _ => False) w w' → trP per L (0, 0) = none → ER (.returned (.tuple #[.int .i64 0, .int .i64 0, .int .i64 6])) w') := Lib.hid (fun w' ho hn => by rw [her, hn]; exact ⟨rfl, ho⟩)
      have HES : Hid (∀ w' d c, Only (fun _ => False) w w' → trP per L (0, 0) = some (d, c) → ER (.returned (.tuple #[.int .i64 d, .int .i64 c, .int .i64 0])) w') := Lib.hid (fun w' d c ho hn => by rw [her, hn]; exact ⟨rfl, ho⟩)
      rw [← her]
      clear her HER
      go_enter Try.func16, Try.ntmps16
      go_wp2_with fail
      clear e0 e1
      go_loopw [29, 7, 8] (fun i d c wr => ∃ (k : Nat) (x : Int × Int), k ≤ L.length ∧ i = .int .i64 k ∧ d = .int .i64 x.1 ∧ c = .int .i64 x.2 ∧ Hid (trP per (L.take k) (0, 0) = some x ∧ Two x) ∧ Hid (Only (fun _ => False) w wr)) (fun i _ _ _ => L.length - (intOf i).toNat)
      case atStart => exact ⟨0, (0, 0), by omega, rfl, rfl, rfl, Lib.hid ⟨rfl, HZ.out⟩, Lib.hid (Only.refl _ _)⟩
      case round =>
        obtain ⟨k, ⟨x, y⟩, hk, rfl, rfl, rfl, HT, HW⟩ := hrel
        rename World => wr
        by_cases h8 : k < L.length
        · obtain ⟨g, rfl, hc⟩ := (HRD.out.only HW.out (fun _ _ f => f)).2.resolve_left (by omega)
          obtain ⟨c0', c1', c2'⟩ := hc k h8
          have hmem : L.getD k default ∈ L := by rw [List.getD_eq_getElem?_getD, List.getElem?_eq_getElem h8]; exact List.getElem_mem h8
          have HTK := Lib.hid (trP_take (per := per) (L := L) (k := k) (x := (0, 0)) h8 HT.out.1)
          have HTW := Lib.hid HT.out.2
          have HPS := Lib.hid (HAT.out.quiet HW.out |>.pl _ hmem)
          obtain ⟨⟨xk, xg, xl, xc, xp, xs⟩, hle⟩ : ∃ x, L.getD k default = x := ⟨_, rfl⟩
          rw [hle] at c0' c1' c2' HTK HPS
          dsimp only at c0' c1' c2'
          have hk0 : (0 : Int) ≤ (k : Int) := by omega
          have hkm : (k : Int) < (L.length : Int) := by omega
          clear hc hle hmem
          have HAL : Hid (∀ o, Only (fun _ => False) wr (wr.alloc o)) := Lib.hid (fun o => (Only.refl _ _).alloc o)
          by_cases hsk : per ≠ -1 ∧ (xp : Int) ≠ per
          · have HNX : Hid (trP per (L.take (k + 1)) (0, 0) = some (x, y)) := Lib.hid (by rw [HTK.out, if_pos hsk])
            obtain ⟨hs1, hs2⟩ := hsk
            have hb1 : (per != -1) = true := by simpa using hs1
            have hb2 : ((xp : Int) != per) = true := by simpa using hs2
            go_wp2_with fail
            go_roundw
            case rel => exact ⟨k + 1, (x, y), by omega, by go_num, rfl, rfl, Lib.hid ⟨HNX.out, HTW.out⟩, Lib.hid (HW.out.trans (HAL.out _))⟩
            case measure => (simp [intOf]; omega)
          · have HTL := Lib.hid (show trP per (L.take (k + 1)) (0, 0) = trL xs (x, y) by rw [HTK.out, if_neg hsk])
            have HCT : Hid (∀ o, Calls Try.prog 36 #[.int .i64 x, .int .i64 y, .slice (some ⟨xg, 0, none⟩) xl xc] (wr.alloc o) (TrAt (trL xs (x, y)) (wr.alloc o))) := Lib.hid (fun o => trl_any x y _ xl xc xs _ (HPS.out.1.only (HAL.out o) (fun _ _ f => f)) HTW.out)
            have hsk' : per = -1 ∨ (xp : Int) = per := by omega
            clear hsk HTK
            rcases hsk' with hq | hq
            · have hb1 : (per != -1) = false := by simpa using hq
              subst hq
              go_wp2_with fail
              refine (HCT.out _).mono ?_
              rintro _ w5 ⟨⟨d5, c5, ok, rfl, hok⟩, ho⟩
              have HO5 := Lib.hid (HW.out.trans ((HAL.out _).trans ho))
              clear ho
              rcases hok with ⟨rfl, hok⟩ | ⟨rfl, hok⟩
              · have HNX := Lib.hid (HTL.out.trans hok)
                clear hok
                go_wp2_with fail
                go_roundw
                case rel => exact ⟨k + 1, (d5, c5), by omega, by go_num, rfl, rfl, Lib.hid ⟨HNX.out, trP_two _ _ HZ.out HNX.out⟩, HO5⟩
                case measure => (simp [intOf]; omega)
              · have HNX := Lib.hid (trP_none (HTL.out.trans hok))
                clear hok
                go_wp2_with fail
                go_ret3
                exact HEN.out _ HO5.out HNX.out
            · subst hq
              have hb2 : ((xp : Int) != (xp : Int)) = false := by simp
              have hb1 : ((xp : Int) != -1) = true := by simp
              go_wp2_with fail
              refine (HCT.out _).mono ?_
              rintro _ w5 ⟨⟨d5, c5, ok, rfl, hok⟩, ho⟩
              have HO5 := Lib.hid (HW.out.trans ((HAL.out _).trans ho))
              clear ho
              rcases hok with ⟨rfl, hok⟩ | ⟨rfl, hok⟩
              · have HNX := Lib.hid (HTL.out.trans hok)
                clear hok
                go_wp2_with fail
                go_roundw
                case rel => exact ⟨k + 1, (d5, c5), by omega, by go_num, rfl, rfl, Lib.hid ⟨HNX.out, trP_two _ _ HZ.out HNX.out⟩, HO5⟩
                case measure => (simp [intOf]; omega)
              · have HNX := Lib.hid (trP_none (HTL.out.trans hok))
                clear hok
                go_wp2_with fail
                go_ret3
                exact HEN.out _ HO5.out HNX.out
        · have hge : ¬ (k : Int) < (L.length : Int) := by omega
          have hkl : k = L.length := by omega
          have HNX : Hid (trP per L (0, 0) = some (x, y)) := Lib.hid (by have h := HT.out.1; rwa [List.take_of_length_le (by omega)] at h)
          clear hkl
          go_wp2_with fail
          go_ret3
          exact HES.out _ _ _ HW.out HNX.out
end Go.Proofs.Ytdjiljkdnpmilaa.jnw
