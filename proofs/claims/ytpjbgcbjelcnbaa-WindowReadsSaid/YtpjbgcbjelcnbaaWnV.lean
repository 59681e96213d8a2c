/- What the program's Read of a window answers. -/
import Derived.Test.YtpjbgcbjelcnbaaWnU
namespace Go.Proofs.Ytpjbgcbjelcnbaa.wnd
open Go.RowKit mem rowz dskw codm codp codw
set_option linter.unusedVariables false

/-- one more that is kept, in blocks of S; what lies in T may have changed -/
theorem kept_more2 {S T : Nat → Prop} {w w9 w' : World} {p : Nat} {most : Int} {strict : Bool} {v v' : Value} {L : List Kd} {d : Kd} (h : WnAt S w p most strict v L) (hT : ∀ q, S q → ¬ T q) (h09 : Only T w w9) (h9 : Only (fun q => q = p ∨ v.ownBlock = some q) w9 w')
    (hv : ∀ k, v'.ownBlock = some k → v.ownBlock = some k ∨ w9.heap.size ≤ k)
    (hd1 : Reads w9 d.qa d.qn d.q ∧ Cp d.qa d.qn d.qc ∧ d.qn ≤ 65536) (hd2 : Reads w9 d.aa d.an d.a ∧ Cp d.aa d.an d.ac ∧ d.an ≤ 65536) (hb1 : ∀ y, d.qa = some y → w.heap.size ≤ y.block ∧ y.block < w9.heap.size) (hb2 : ∀ y, d.aa = some y → w.heap.size ≤ y.block ∧ y.block < w9.heap.size) :
    ∀ x ∈ L ++ [d], KdIn (fun q => S q ∨ w.heap.size ≤ q) w' p v' x := by
  have hp := h.lt
  have hown := own_ne h
  have hsz := h09.size
  have hall : Only (fun q => T q ∨ q = p ∨ v.ownBlock = some q) w w' := (h09.mono (fun _ _ f => .inl f)).trans (h9.mono (fun _ _ f => .inr f))
  intro x hx
  rcases List.mem_append.1 hx with hx | hx
  · obtain ⟨k1, k2⟩ := h.kd x hx
    have key : ∀ {a : Option Addr} {n c : Nat} {l : List Nat}, SlIn S w p v a n c l → SlIn (fun q => S q ∨ w.heap.size ≤ q) w' p v' a n c l := fun {a n c l} k => k.move hall (fun y e => by
      obtain ⟨_, ms, n1, n2⟩ := k.2.2.2 y e
      exact fun q => q.elim (fun q => hT _ ms q) (fun q => q.elim (fun q => n1 q) (fun q => n2 q))) (fun y e q => by
      obtain ⟨m1, _, _, n2⟩ := k.2.2.2 y e
      rcases hv _ q with q | q
      · exact n2 q
      · omega) (fun q s => .inl s)
    exact ⟨key k1, key k2⟩
  · rw [List.mem_singleton] at hx
    subst hx
    have key : ∀ {a : Option Addr} {n c : Nat} {l : List Nat}, (Reads w9 a n l ∧ Cp a n c ∧ n ≤ 65536) → (∀ y, a = some y → w.heap.size ≤ y.block ∧ y.block < w9.heap.size) → SlIn (fun q => S q ∨ w.heap.size ≤ q) w' p v' a n c l := fun {a n c l} k hb => ⟨k.1.only h9 (fun y e q => by
      obtain ⟨m1, m2⟩ := hb y e
      rcases q with q | q
      · omega
      · have := (hown _ q).1; omega), k.2.1, k.2.2, fun y e => by
      obtain ⟨m1, m2⟩ := hb y e
      refine ⟨by have := h9.size; omega, .inr m1, by omega, fun q => ?_⟩
      rcases hv _ q with q | q
      · have := (hown _ q).1; omega
      · omega⟩
    exact ⟨key hd1 hb1, key hd2 hb2⟩
/-- a text that was read -/
def TxtR (w0 w : World) (a : Option Addr) (n c : Nat) (t : List Nat) : Prop := Reads w a n t ∧ Cp a n c ∧ n ≤ 65536 ∧ ∀ y, a = some y → w0.heap.size ≤ y.block ∧ y.block < w.heap.size
theorem txt_form {w w' : World} {v : Value} {t : List Nat} (h : OwnB w' v t) (hk : ∀ k, v.ownBlock = some k → w.heap.size ≤ k) (hl : t.length ≤ 65536) : ∃ a n c, v = .slice a n c ∧ TxtR w w' a n c t := by
  obtain ⟨a, len, cap, rfl, hb⟩ := bytes_of_own h
  refine ⟨a, len, cap, rfl, hb.1, ⟨hb.2.1, hb.2.2.1, hb.2.2.2⟩, by rw [← hb.1.1]; exact hl, fun y hy => ?_⟩
  subst hy
  rcases h.forms with ⟨q, _⟩ | ⟨g, c, q, hg, _⟩
  · cases q
  · injection q with q1
    injection q1 with q1
    have := hk y.block rfl
    exact ⟨this, by rw [q1]; exact hg⟩
theorem TxtR.only {T : Nat → Prop} {w0 w w' : World} {a : Option Addr} {n c : Nat} {t : List Nat} (h : TxtR w0 w a n c t) (ho : Only T w w') (hT : ∀ q, T q → q < w0.heap.size) : TxtR w0 w' a n c t :=
  ⟨h.1.only ho (fun y e s => by have := hT _ s; have := (h.2.2.2 y e).1; omega), h.2.1, h.2.2.1, fun y e => ⟨(h.2.2.2 y e).1, by have := (h.2.2.2 y e).2; have := ho.size; omega⟩⟩
theorem TxtR.older {w1 w0 w : World} {a : Option Addr} {n c : Nat} {t : List Nat} (h : TxtR w0 w a n c t) (hs : w1.heap.size ≤ w0.heap.size) : TxtR w1 w a n c t := ⟨h.1, h.2.1, h.2.2.1, fun y e => ⟨Nat.le_trans hs (h.2.2.2 y e).1, (h.2.2.2 y e).2⟩⟩
theorem tS_le (most : Nat) (s : Option (List Nat)) (h : SOk s) : (tS (most : Int) s).1.length ≤ most := by
  cases s with
  | none => show ([] : List Nat).length ≤ _; simp
  | some l =>
    unfold tS
    dsimp only
    cases hu : pText (most : Int) l with
    | none => simp
    | some x =>
      obtain ⟨t, q⟩ := x
      have := (pText_is (h l rfl).1 hu).2.1
      dsimp only
      omega
/-- what is read of bytes -/
def wM (b : List Nat) : Nat := (uS 64 (some b)).1
def wS1 (b : List Nat) : Option (List Nat) := (uS 64 (some b)).2
def wF (b : List Nat) : Bool := (codp.fS (wS1 b)).1
def wS2 (b : List Nat) : Option (List Nat) := (codp.fS (wS1 b)).2
def wZ (b : List Nat) : Int := (iS (wS2 b)).1
def wS3 (b : List Nat) : Option (List Nat) := (iS (wS2 b)).2
def wC (b : List Nat) : Nat := (uS (wM b : Int) (wS3 b)).1
def wS4 (b : List Nat) : Option (List Nat) := (uS (wM b : Int) (wS3 b)).2
def wK (b : List Nat) : List Kp := (rdN (wC b) (wS4 b)).1
def wS5 (b : List Nat) : Option (List Nat) := (rdN (wC b) (wS4 b)).2
def okW (b : List Nat) : Prop := 1 ≤ wM b ∧ wS5 b = some [] ∧ wZ b = lastK (wK b) ∧ folP (wF b) (wM b) (wK b) = true
def ReadW (w : World) (b : List Nat) (e : Ending) (w' : World) : Prop := Only (fun _ => False) w w' ∧ ((okW b ∧ ∃ p, e = .returned (.tuple #[.pointer (some ⟨p, 0, none⟩), .int .i64 0]) ∧ WS (fun q => w.heap.size ≤ q) w' p (wM b : Int) (wF b) (wK b) ∧ w.heap.size ≤ p) ∨ (¬ okW b ∧ e = .returned (.tuple #[.pointer none, .int .i64 2])))
set_option maxRecDepth 100000 in
set_option maxHeartbeats 8000000 in
theorem wread_any (a : Option Addr) (n c : Nat) (b : List Nat) (w : World) (h : Bytes w a n c b) (hb : By b) : Calls Try.prog 38 #[.slice a n c] w (ReadW w b) := by
  have hlen : n ≤ 100000000 := by rw [← h.1.1]; exact hb.2
  have HRA := Lib.hid (read_any a n c b w h (by omega))
  have HBY := Lib.hid hb
  obtain ⟨m, hm⟩ : ∃ x, wM b = x := ⟨_, rfl⟩
  obtain ⟨st, hst⟩ : ∃ x, wF b = x := ⟨_, rfl⟩
  obtain ⟨z, hz⟩ : ∃ x, wZ b = x := ⟨_, rfl⟩
  obtain ⟨cnt, hcnt⟩ : ∃ x, wC b = x := ⟨_, rfl⟩
  have hsb : SOk (some b) := fun l hl => by injection hl with hl; rw [← hl]; exact hb
  have hm64 : m ≤ 64 := by have := uS_bd (most := 64) (some b) hsb (by omega); unfold wM at hm; rw [hm] at this; omega
  have hs1 : SOk (wS1 b) := hsb.uS 64
  have hs2 : SOk (wS2 b) := hs1.fS
  have hs3 : SOk (wS3 b) := hs2.iS
  have hs4 : SOk (wS4 b) := hs3.uS _
  have hcm : (cnt : Int) ≤ (m : Int) := by
    have := uS_bd (most := (wM b : Int)) (wS3 b) hs3 (by omega)
    unfold wC at hcnt
    rw [hcnt, hm] at this
    exact this
  have HS4 := Lib.hid hs4
  have HM := Lib.hid hm
  have HST := Lib.hid hst
  have HZ := Lib.hid hz
  have HCN := Lib.hid hcnt
  clear h hb hs1 hs2 hs3 hs4 hsb hm hst hz hcnt
  go_enter Try.func38, Try.ntmps38
  go_wp2_with fail
  refine HRA.out.mono ?_
  rintro _ w1 ⟨rp, ra, rl, rcap, rfl, hrd, ho, hrp, hrb⟩
  have HR1 : Hid (RS (fun q => q < w1.heap.size ∧ q ≠ rp) w1 rp (some b)) := Lib.hid ⟨ra, rl, rcap, b, 0, hrd, HBY.out, fun x hx => ⟨(hrb x hx).2, hrd.off x hx⟩, rfl, rfl⟩
  have HO1 := Lib.hid ho
  have HRPW := Lib.hid hrp
  have hrpl := HR1.out.lt
  clear hrd ho hrb HRA hrp
  go_wp2_with fail
  refine (guint _ rp 64 (some b) w1 HR1.out).mono ?_
  rintro _ w2 ⟨rfl, hrs, ho⟩
  have HR2 : Hid (RS (fun q => q < w1.heap.size ∧ q ≠ rp) w2 rp (wS1 b)) := Lib.hid hrs
  have HO2 : Hid (Only (fun q => q = rp) w1 w2) := Lib.hid ho
  clear hrs ho HR1
  rw [show (uS 64 (some b)).1 = m from HM.out]
  go_wp2_with fail
  refine (gflag _ rp (wS1 b) w2 HR2.out).mono ?_
  rintro _ w3 ⟨rfl, hrs, ho⟩
  have HR3 : Hid (RS (fun q => q < w1.heap.size ∧ q ≠ rp) w3 rp (wS2 b)) := Lib.hid hrs
  have HO3 : Hid (Only (fun q => q = rp) w1 w3) := Lib.hid (HO2.out.trans ho)
  clear hrs ho HR2 HO2
  rw [show (codp.fS (wS1 b)).1 = st from HST.out]
  have HW3 : Hid (∀ w', Only (fun q => q = rp) w1 w' → Only (fun _ => False) w w') := Lib.hid (fun w' h => HO1.out.then h (fun q hq e => by have := HRPW.out; omega))
  by_cases hm1 : 1 ≤ m
  · have hm1' : (1 : Int) ≤ m := by omega
    have hm64' : (m : Int) ≤ 64 := by omega
    go_wp2_with fail
    refine (wnew_yes (m : Int) st w3 hm1' hm64').mono ?_
    rintro _ w4 ⟨rfl, hwn, ho⟩
    have HO4 : Hid (Only (fun q => q = rp) w1 w4) := Lib.hid (HO3.out.trans (ho.mono (fun _ _ f => f.elim)))
    have HR4 := Lib.hid (HR3.out.only ho (fun f => f) (fun _ _ f => f))
    have HWN4 := Lib.hid hwn
    obtain ⟨p, hp⟩ : ∃ x, x = w3.heap.size := ⟨_, rfl⟩
    obtain ⟨q0, hq0⟩ : ∃ x, x = w1.heap.size := ⟨_, rfl⟩
    have HPQ : Hid (q0 ≤ p ∧ rp < q0 ∧ w.heap.size ≤ q0) := Lib.hid ⟨by rw [hp, hq0]; exact HO3.out.size, by rw [hq0]; exact hrpl, by rw [hq0]; exact HO1.out.size⟩
    have HQ4 : Hid (q0 ≤ w4.heap.size) := Lib.hid (by rw [hq0]; exact HO4.out.size)
    rw [← hp] at HWN4 ⊢
    rw [← hq0] at HR4
    have HWN4' : Hid (WnAt (fun q => q0 ≤ q) w4 p (m : Int) st (.slice none 0 0) []) := Lib.hid (HWN4.out.mono (fun q s => Nat.le_trans HPQ.out.1 s))
    have HO4' := Lib.hid (HW3.out _ HO4.out)
    clear hwn ho HR3 HO3 HO4 HWN4 hp hq0 HW3 hrpl HO1
    go_wp2_with fail
    refine (gint _ rp (wS2 b) w4 HR4.out).mono ?_
    rintro _ w5 ⟨rfl, hrs, ho⟩
    have HR5 : Hid (RS (fun q => q < q0 ∧ q ≠ rp) w5 rp (wS3 b)) := Lib.hid hrs
    have HWN5 := Lib.hid (HWN4'.out.only ho (fun q s e => by have := HPQ.out.2.1; omega))
    have HO5 : Hid (Only (fun _ => False) w w5) := Lib.hid (HO4'.out.then ho (fun q hq e => by have := HRPW.out; omega))
    have HQ5 : Hid (q0 ≤ w5.heap.size) := Lib.hid (Nat.le_trans HQ4.out ho.size)
    have c0 := HWN5.out.c0
    clear hrs ho HR4 HWN4' HO4' HQ4
    rw [show (iS (wS2 b)).1 = z from HZ.out]
    go_wp2_with fail
    refine (guint _ rp (m : Int) (wS3 b) w5 HR5.out).mono ?_
    rintro _ w6 ⟨rfl, hrs, ho⟩
    have e6 : (uS (m : Int) (wS3 b)).2 = wS4 b := by unfold wS4; rw [HM.out]
    rw [e6] at hrs
    have HR6 : Hid (RS (fun q => q < q0 ∧ q ≠ rp) w6 rp (rdN 0 (wS4 b)).2) := Lib.hid hrs
    clear e6
    have hc9 : (uS (m : Int) (wS3 b)).1 = cnt := by rw [← HCN.out]; unfold wC; rw [HM.out]
    rw [hc9]
    have HWN6 := Lib.hid (HWN5.out.only ho (fun q s e => by have := HPQ.out.2.1; omega))
    have HO6 : Hid (Only (fun _ => False) w w6) := Lib.hid (HO5.out.then ho (fun q hq e => by have := HRPW.out; omega))
    have HQ6 : Hid (q0 ≤ w6.heap.size) := Lib.hid (Nat.le_trans HQ5.out ho.size)
    clear hrs ho HR5 HWN5 HO5 HQ5 c0 hc9
    have HNRP : Hid (¬ p = rp) := Lib.hid (by have := HPQ.out; omega)
    have HRP : Hid (rp < q0) := Lib.hid HPQ.out.2.1
    have HQW : Hid (w.heap.size ≤ q0) := Lib.hid HPQ.out.2.2
    go_wp2_with fail
    go_loopw [28] (fun iv wr => ∃ (i : Nat) (v : Value) (L : List Kd), i ≤ cnt ∧ iv = .int .i64 (i : Int) ∧ Hid (L.map Kd.kp = (rdN i (wS4 b)).1) ∧ Hid (WnAt (fun q => q0 ≤ q) wr p (m : Int) st v L) ∧ Hid (RS (fun q => q < q0 ∧ q ≠ rp) wr rp (rdN i (wS4 b)).2) ∧ Hid (Only (fun _ => False) w wr) ∧ Hid (q0 ≤ wr.heap.size)) (fun iv _ => cnt - (intOf iv).toNat)
    case atStart => exact ⟨0, _, [], by omega, rfl, Lib.hid rfl, HWN6, HR6, HO6, HQ6⟩
    case round =>
      obtain ⟨i, v, L, hi, rfl, HLK, HWN, HRS, HO, HQS⟩ := hrel
      rename World => wr
      have hLl : L.length = i := by have := congrArg List.length HLK.out; rw [List.length_map, rdN_len] at this; exact this
      by_cases h8 : i < cnt
      · have hin : (i : Int) < cnt := by omega
        have hi0 : (0 : Int) ≤ i := by omega
        have hi64 : (i : Int) ≤ 64 := by omega
        have c2 := HWN.out.c2
        have HPP := Lib.hid HWN.out.lt
        have HPL : Hid (rp < wr.heap.size) := Lib.hid HRS.out.lt
        have HVS : Hid (∀ k, v.ownBlock = some k → q0 ≤ k) := Lib.hid HWN.out.sv
        have HSL : Hid (∀ w', Only (fun q => q = rp) wr w' → w'.cell? ⟨p, 2, none⟩ = some v) := Lib.hid (fun w' ho => ho.cell' c2 (fun e => HNRP.out e))
        have hsi0 := SOk.rdN HS4.out i
        have HEN0 : Hid (rdN (i + 1) (wS4 b) = ((rdN i (wS4 b)).1 ++ [(rdEnt (rdN i (wS4 b)).2).1], (rdEnt (rdN i (wS4 b)).2).2)) := Lib.hid rfl
        generalize hsi : (rdN i (wS4 b)).2 = si at *
        obtain ⟨nn, sa, hu1⟩ : ∃ a b, uS 4611686018427387904 si = (a, b) := ⟨_, _, rfl⟩
        obtain ⟨xq, sb, hu2⟩ : ∃ a b, tS 65536 sa = (a, b) := ⟨_, _, rfl⟩
        obtain ⟨xa, sc, hu3⟩ : ∃ a b, tS 65536 sb = (a, b) := ⟨_, _, rfl⟩
        have hsa0 : SOk sa := by have := hsi0.uS 4611686018427387904; rw [hu1] at this; exact this
        have hsb0 : SOk sb := by have := hsa0.tS 65536; rw [hu2] at this; exact this
        have HS1 : Hid (xq.length ≤ 65536) := Lib.hid (by have := tS_le 65536 sa hsa0; rw [show ((65536 : Nat) : Int) = 65536 from rfl, hu2] at this; exact this)
        have HS2 : Hid (xa.length ≤ 65536) := Lib.hid (by have := tS_le 65536 sb hsb0; rw [show ((65536 : Nat) : Int) = 65536 from rfl, hu3] at this; exact this)
        obtain ⟨xn, hxn⟩ : ∃ x : Int, (nn : Int) = x := ⟨_, rfl⟩
        have HENT : Hid (rdN (i + 1) (wS4 b) = ((rdN i (wS4 b)).1 ++ [⟨xn, xq, xa⟩], sc)) := Lib.hid (by rw [HEN0.out]; unfold rdEnt; rw [hu1]; dsimp only; rw [hu2]; dsimp only; rw [hu3, hxn])
        have HXN : Hid (0 ≤ xn ∧ xn ≤ 4611686018427387904) := Lib.hid (by have := uS_bd (most := 4611686018427387904) si hsi0 (by omega); rw [hu1] at this; dsimp only at this; omega)
        have HU : Hid (∀ w', RS (fun q => q < q0 ∧ q ≠ rp) w' rp si → Calls Try.prog 60 #[.pointer (some ⟨rp, 0, none⟩), .int .i64 4611686018427387904] w' (AftG (fun q => q < q0 ∧ q ≠ rp) rp w' (.int .i64 xn) sa)) := Lib.hid (fun w' h => by have := guint _ rp 4611686018427387904 si w' h; rw [hu1, hxn] at this; exact this)
        have HTA : Hid (∀ w', RS (fun q => q < q0 ∧ q ≠ rp) w' rp sa → Calls Try.prog 83 #[.pointer (some ⟨rp, 0, none⟩), .int .i64 65536] w' (TxtG (fun q => q < q0 ∧ q ≠ rp) rp w' xq sb)) := Lib.hid (fun w' h => by have := gtext _ rp 65536 sa w' h; rw [hu2] at this; exact this)
        have HTB : Hid (∀ w', RS (fun q => q < q0 ∧ q ≠ rp) w' rp sb → Calls Try.prog 83 #[.pointer (some ⟨rp, 0, none⟩), .int .i64 65536] w' (TxtG (fun q => q < q0 ∧ q ≠ rp) rp w' xa sc)) := Lib.hid (fun w' h => by have := gtext _ rp 65536 sb w' h; rw [hu3] at this; exact this)
        have hLl9 : L.length ≤ 64 := by omega
        have HLl := Lib.hid hLl
        clear hLl hu1 hu2 hu3 hsi hsi0 hsa0 hsb0 hxn HEN0
        go_upto_region 8 with fail
        refine wp_region_noPanic ?_
        refine late.region (fun w' => w'.cell? ⟨p, 2, none⟩ = some v) (fun j => [16].contains j) (by kernel_rfl) (HSL.out _ (Only.refl _ _).drew) (fun hHeld => ?_)
        obtain ⟨y0, hy0⟩ : ∃ x, x = wr.drew := ⟨_, rfl⟩
        rw [← hy0] at hHeld ⊢
        have hot : Hid (Only (fun q => q = rp) wr y0) := Lib.hid (by rw [hy0]; exact (Only.refl _ _).drew)
        have HRX : Hid (RS (fun q => q < q0 ∧ q ≠ rp) y0 rp si) := Lib.hid (by rw [hy0]; exact HRS.out.only (Only.refl (fun _ => False) _).drew (fun f => f) (fun _ _ f => f))
        clear hy0
        refine late.take (i := 0) [14, 15, 16] (v := ?_) rfl (by kernel_rfl) (by kernel_rfl) (by kernel_rfl) (by kernel_rfl) (fun _ _ _ h => h) (Or.inl ⟨by rfl, ?_⟩) (by assumption) ?_
        rotate_left 1
        · intro w' hSw
          try dsimp only at hSw
          go_simp
          try with_reducible rfl
        try simp only [List.getElem_toArray, List.getElem_cons_zero, Act.put, List.setIfInBounds_toArray, List.set_cons_zero, List.set_cons_succ]
        refine late.take (i := 1) [2, 3, 4, 13, 14, 15, 16] (v := ?_) rfl (by kernel_rfl) (by kernel_rfl) (by kernel_rfl) (by kernel_rfl) (fun _ _ _ h => h) (Or.inl ⟨by rfl, ?_⟩) (by assumption) ?_
        rotate_left 1
        · intro w' hSw
          try dsimp only at hSw
          go_simp
          try with_reducible rfl
        try simp only [List.getElem_toArray, List.getElem_cons_zero, List.getElem_cons_succ, Act.put, List.setIfInBounds_toArray, List.set_cons_zero, List.set_cons_succ]
        refine late.take (i := 2) [3, 4, 13, 14, 15, 16] (v := ?_) rfl (by kernel_rfl) (by kernel_rfl) (by kernel_rfl) (by kernel_rfl) (fun _ _ _ h => h) (Or.inl ⟨by rfl, ?_⟩) (by assumption) ?_
        rotate_left 1
        · intro w' hSw
          try dsimp only at hSw
          go_simp
          try with_reducible rfl
        try simp only [List.getElem_toArray, List.getElem_cons_zero, List.getElem_cons_succ, Act.put, List.setIfInBounds_toArray, List.set_cons_zero, List.set_cons_succ]
        refine late.take (i := 3) [4, 13, 14, 15, 16] (v := ?_) rfl (by kernel_rfl) (by kernel_rfl) (by kernel_rfl) (by kernel_rfl) (fun _ _ _ h => h) (Or.inl ⟨by rfl, ?_⟩) (by assumption) ?_
        rotate_left 1
        · intro w' hSw
          try dsimp only at hSw
          go_simp
          try with_reducible rfl
        try simp only [List.getElem_toArray, List.getElem_cons_zero, List.getElem_cons_succ, Act.put, List.setIfInBounds_toArray, List.set_cons_zero, List.set_cons_succ]
        refine late.take (i := 4) [13, 14, 15, 16] (v := ?_) rfl (by kernel_rfl) (by kernel_rfl) (by kernel_rfl) (by kernel_rfl) (fun _ _ _ h => h) (Or.inl ⟨by rfl, ?_⟩) (by assumption) ?_
        rotate_left 1
        · intro w' hSw
          try dsimp only at hSw
          go_simp
          try with_reducible rfl
        try simp only [List.getElem_toArray, List.getElem_cons_zero, List.getElem_cons_succ, Act.put, List.setIfInBounds_toArray, List.set_cons_zero, List.set_cons_succ]
        refine late.take (i := 5) [6, 8, 10, 11, 12, 13, 14, 15, 16] (v := ?_) rfl (by kernel_rfl) (by kernel_rfl) (by kernel_rfl) (by kernel_rfl) (fun _ _ _ h => h) (Or.inl ⟨by rfl, ?_⟩) (by assumption) ?_
        rotate_left 1
        · intro w' hSw
          try dsimp only at hSw
          go_simp
          try with_reducible rfl
        try simp only [List.getElem_toArray, List.getElem_cons_zero, List.getElem_cons_succ, Act.put, List.setIfInBounds_toArray, List.set_cons_zero, List.set_cons_succ]
        refine late.take (i := 7) [8, 10, 11, 12, 13, 14, 15, 16] (v := ?_) rfl (by kernel_rfl) (by kernel_rfl) (by kernel_rfl) (by kernel_rfl) (fun _ _ _ h => h) (Or.inl ⟨by rfl, ?_⟩) (by assumption) ?_
        rotate_left 1
        · intro w' hSw
          try dsimp only at hSw
          go_simp
          try with_reducible rfl
        try simp only [List.getElem_toArray, List.getElem_cons_zero, List.getElem_cons_succ, Act.put, List.setIfInBounds_toArray, List.set_cons_zero, List.set_cons_succ]
        refine late.take (i := 9) [10, 11, 12, 13, 14, 15, 16] (v := ?_) rfl (by kernel_rfl) (by kernel_rfl) (by kernel_rfl) (by kernel_rfl) (fun _ _ _ h => h) (Or.inl ⟨by rfl, ?_⟩) (by assumption) ?_
        rotate_left 1
        · intro w' hSw
          try dsimp only at hSw
          go_simp
          try with_reducible rfl
        try simp only [List.getElem_toArray, List.getElem_cons_zero, List.getElem_cons_succ, Act.put, List.setIfInBounds_toArray, List.set_cons_zero, List.set_cons_succ]
        refine late.ready (rs := [6]) (by kernel_rfl) (by simp) ?_
        refine late.Each.cons rfl (fun K hK => ?_) late.Each.nil
        try simp only [List.getElem_toArray, List.getElem_cons_zero, List.getElem_cons_succ]
        go_simp
        go_at_call 60
        with_reducible refine (HU.out _ HRX.out).mono ?_
        rintro _ W1 ⟨rfl, hrs, ho⟩
        replace HRX := Lib.hid hrs
        replace hot := Lib.hid (hot.out.trans ho)
        clear hrs ho
        try dsimp only
        refine hK.out _ _ (fun _ => HSL.out _ hot.out) (fun hHeld1 => ?_)
        replace hHeld1 := hHeld1 rfl
        clear hK K
        try simp only [List.getElem_toArray, List.getElem_cons_zero, List.getElem_cons_succ, Act.put, List.setIfInBounds_toArray, List.set_cons_zero, List.set_cons_succ]
        refine late.ready (rs := [8]) (by kernel_rfl) (by simp) ?_
        refine late.Each.cons rfl (fun K hK => ?_) late.Each.nil
        try simp only [List.getElem_toArray, List.getElem_cons_zero, List.getElem_cons_succ]
        go_simp
        go_at_call 83
        with_reducible refine (HTA.out _ HRX.out).mono ?_
        rintro _ W2 ⟨tv, rfl, hown, hkk, hrs, ho⟩
        obtain ⟨t1a, t1n, t1c, rfl, htr⟩ := txt_form hown hkk HS1.out
        have HT1 : Hid (TxtR wr W2 t1a t1n t1c xq) := Lib.hid (htr.older hot.out.size)
        replace HRX := Lib.hid hrs
        replace hot := Lib.hid (hot.out.trans ho)
        clear hrs ho hown hkk htr
        try dsimp only
        refine hK.out _ _ (fun _ => HSL.out _ hot.out) (fun hHeld2 => ?_)
        replace hHeld2 := hHeld2 rfl
        clear hK K
        try simp only [List.getElem_toArray, List.getElem_cons_zero, List.getElem_cons_succ, Act.put, List.setIfInBounds_toArray, List.set_cons_zero, List.set_cons_succ]
        refine late.ready (rs := [10]) (by kernel_rfl) (by simp) ?_
        refine late.Each.cons rfl (fun K hK => ?_) late.Each.nil
        try simp only [List.getElem_toArray, List.getElem_cons_zero, List.getElem_cons_succ]
        go_simp
        go_at_call 83
        with_reducible refine (HTB.out _ HRX.out).mono ?_
        rintro _ W3 ⟨tv, rfl, hown, hkk, hrs, ho⟩
        obtain ⟨t2a, t2n, t2c, rfl, htr⟩ := txt_form hown hkk HS2.out
        have HT2 : Hid (TxtR wr W3 t2a t2n t2c xa) := Lib.hid (htr.older hot.out.size)
        replace HRX := Lib.hid hrs
        replace HT1 := Lib.hid (HT1.out.only ho (fun q e => by have := HPL.out; omega))
        replace hot := Lib.hid (hot.out.trans ho)
        clear hrs ho hown hkk htr
        try dsimp only
        refine hK.out _ _ (fun _ => HSL.out _ hot.out) (fun hHeld3 => ?_)
        replace hHeld3 := hHeld3 rfl
        clear hK K
        try simp only [List.getElem_toArray, List.getElem_cons_zero, List.getElem_cons_succ, Act.put, List.setIfInBounds_toArray, List.set_cons_zero, List.set_cons_succ]
        refine late.take (i := 11) [12, 13, 14, 15, 16] (v := ?_) rfl (by kernel_rfl) (by kernel_rfl) (by kernel_rfl) (by kernel_rfl) (fun _ _ _ h => h) (Or.inl ⟨by rfl, ?_⟩) (by assumption) ?_
        rotate_left 1
        · intro w' hSw
          try dsimp only at hSw
          go_simp
          try with_reducible rfl
        try simp only [List.getElem_toArray, List.getElem_cons_zero, List.getElem_cons_succ, Act.put, List.setIfInBounds_toArray, List.set_cons_zero, List.set_cons_succ]
        refine late.ready (rs := [12]) (by kernel_rfl) (by simp) ?_
        refine late.Each.cons rfl (fun K hK => ?_) late.Each.nil
        try simp only [List.getElem_toArray, List.getElem_cons_zero, List.getElem_cons_succ]
        go_simp
        obtain ⟨w9, hw9⟩ : ∃ x, x = W3 := ⟨_, rfl⟩
        rw [← hw9] at hot HT1 HT2 HRX ⊢
        clear hw9
        obtain ⟨W4, hW4⟩ : ∃ x, x = w9.alloc (.cells #[.int .i64 xn, .slice t1a t1n t1c, .slice t2a t2n t2c] 123) := ⟨_, rfl⟩
        obtain ⟨g4, hg4⟩ : ∃ x, x = w9.heap.size := ⟨_, rfl⟩
        rw [← hW4, ← hg4]
        have hal : Only (fun _ => False) w9 W4 := by rw [hW4]; exact (Only.refl _ _).alloc _
        have HNW : Hid (∀ j u, (encK ⟨xn, t1a, t1n, t1c, xq, t2a, t2n, t2c, xa⟩)[j]? = some u → W4.cell? ⟨g4, j, none⟩ = some u) := Lib.hid (fun j u hu => by
          rw [hW4, hg4, Go.Joins.cell_of_block (cs := #[.int .i64 xn, .slice t1a t1n t1c, .slice t2a t2n t2c]) (t := 123) (fr := (0, 0)) (by rw [heap_alloc, if_pos rfl])]
          rw [← hu]; simp [encK])
        have H9 := hot
        have HAL := Lib.hid hal
        have HSZ : Hid (w9.heap.size ≤ W4.heap.size) := Lib.hid hal.size
        replace hot := Lib.hid (hot.out.trans (hal.mono (fun _ _ f => f.elim)))
        clear hW4 hg4 hal
        refine hK.out _ _ (fun _ => HSL.out _ hot.out) (fun hHeld4 => ?_)
        replace hHeld4 := hHeld4 rfl
        clear hK K
        try simp only [List.getElem_toArray, List.getElem_cons_zero, List.getElem_cons_succ, Act.put, List.setIfInBounds_toArray, List.set_cons_zero, List.set_cons_succ]
        refine late.ready (rs := [13]) (by kernel_rfl) (by simp) ?_
        refine late.Each.cons rfl (fun K hK => ?_) late.Each.nil
        refine step_kept (a := { tmps := _, defers := _ }) rfl _ _ rfl _ L rfl (HWN.out.own.only hot.out (fun k e s => by have := HVS.out k e; have := HRP.out; omega)) g4 1 ⟨xn, t1a, t1n, t1c, xq, t2a, t2n, t2c, xa⟩ rfl HNW.out (by omega) ?_
        rintro v5 W5 hown hgrow hkk
        obtain ⟨gq, bc, hvf, -, -, hbc, -⟩ := owns_form hown (by simp)
        have hl1 : (L ++ [(⟨xn, t1a, t1n, t1c, xq, t2a, t2n, t2c, xa⟩ : Kd)]).length = L.length + 1 := by simp
        rw [hl1] at hvf hbc
        subst hvf
        have hgo := Only.of_grown hgrow
        have hnp0 : v.ownBlock ≠ some p := HWN.out.np
        have d2 := hgo.cell' (HSL.out _ hot.out) hnp0
        have hfz : W5.frozen? ⟨p, 2, none⟩ = false := (hgo.frozen (p := ⟨p, 2, none⟩) (by have := hot.out.size; have := HPP.out; show p < _; omega) hnp0).trans ((hot.out.frozen (p := ⟨p, 2, none⟩) HPP.out (fun e => HNRP.out e)).trans HWN.out.f2)
        have HFZ := Lib.hid hfz
        have f2 := hfz
        have HOW12 := Lib.hid hown
        have HKK : Hid (∀ k, (.slice (some ⟨gq, 0, none⟩) (L.length + 1) bc : Value).ownBlock = some k → v.ownBlock = some k ∨ w9.heap.size ≤ k) := Lib.hid (fun k e => (hkk k e).imp (fun x => x) (fun e2 => Nat.le_trans HSZ.out e2))
        have HGV : Hid (Only (fun x => v.ownBlock = some x) w9 W5) := Lib.hid ((HAL.out.mono (fun _ _ f => f.elim)).trans hgo)
        have HG9 : Hid (Only (fun x => x = p ∨ v.ownBlock = some x) w9 W5) := Lib.hid ((HAL.out.mono (fun _ _ f => f.elim)).trans (hgo.mono (fun k _ e => .inr e)))
        clear hown hgrow hkk hgo HNW hnp0 hfz
        refine hK.out _ _ (fun _ => d2) (fun hHeld5 => ?_)
        replace hHeld5 := hHeld5 rfl
        clear hK K
        try simp only [List.getElem_toArray, List.getElem_cons_zero, List.getElem_cons_succ, Act.put, List.setIfInBounds_toArray, List.set_cons_zero, List.set_cons_succ]
        refine late.take (i := 14) [15, 16] (v := ?_) rfl (by kernel_rfl) (by kernel_rfl) (by kernel_rfl) (by kernel_rfl) (fun _ _ _ h => h) (Or.inl ⟨by rfl, ?_⟩) (by assumption) ?_
        rotate_left 1
        · intro w' hSw
          try dsimp only at hSw
          go_simp
          try with_reducible rfl
        try simp only [List.getElem_toArray, List.getElem_cons_zero, List.getElem_cons_succ, Act.put, List.setIfInBounds_toArray, List.set_cons_zero, List.set_cons_succ]
        refine late.take (i := 15) [16] (v := ?_) rfl (by kernel_rfl) (by kernel_rfl) (by kernel_rfl) (by kernel_rfl) (fun _ _ _ h => h) (Or.inl ⟨by rfl, ?_⟩) (by assumption) ?_
        rotate_left 1
        · intro w' hSw
          try dsimp only at hSw
          go_simp
          try with_reducible rfl
        try simp only [List.getElem_toArray, List.getElem_cons_zero, List.getElem_cons_succ, Act.put, List.setIfInBounds_toArray, List.set_cons_zero, List.set_cons_succ]
        refine late.ready (rs := [16]) (by kernel_rfl) (by simp) ?_
        refine late.Each.cons rfl (fun K hK => ?_) late.Each.nil
        clear hHeld
        try simp only [List.getElem_toArray, List.getElem_cons_zero, List.getElem_cons_succ]
        go_simp
        refine hK.out _ _ (fun h => by cases h) (fun _ => ?_)
        clear hK K
        try simp only [List.getElem_toArray, List.getElem_cons_zero, List.getElem_cons_succ, Act.put, List.setIfInBounds_toArray, List.set_cons_zero, List.set_cons_succ]
        refine late.done (by kernel_rfl) ?_ _
        refine NoPanic.normal ?_
        obtain ⟨w3, hw3⟩ : ∃ x, x = W5.setCell ⟨p, 2, none⟩ (.slice (some ⟨gq, 0, none⟩) (L.length + 1) bc : Value) := ⟨_, rfl⟩
        have HNP9 : Hid ((.slice (some ⟨gq, 0, none⟩) (L.length + 1) bc : Value).ownBlock ≠ some p) := Lib.hid (fun e => (HKK.out p e).elim (fun e => HWN.out.np e) (fun e => by have := H9.out.size; have := HPP.out; omega))
        have HG3 : Hid (Only (fun x => x = p ∨ v.ownBlock = some x) w9 w3) := Lib.hid (HG9.out.trans (by rw [hw3]; exact Only.set _ _ p 2 _ (.inl rfl)))
        have HOW3 : Hid (OwnK w3 (.slice (some ⟨gq, 0, none⟩) (L.length + 1) bc : Value) (L ++ [⟨xn, t1a, t1n, t1c, xq, t2a, t2n, t2c, xa⟩])) := Lib.hid (by rw [hw3]; exact HOW12.out.only (Only.set (fun x => x = p) _ p 2 _ rfl) (fun k e e2 => HNP9.out (by rw [e, e2])))
        have HC3 : Hid (w3.cell? ⟨p, 2, none⟩ = some (.slice (some ⟨gq, 0, none⟩) (L.length + 1) bc : Value) ∧ w3.frozen? ⟨p, 2, none⟩ = false) := Lib.hid ⟨by rw [hw3]; exact cell_same d2, by rw [hw3]; exact frozen_set.trans HFZ.out⟩
        have HC0 : Hid (w3.cell? ⟨p, 0, none⟩ = some (.int .i64 (m : Int)) ∧ w3.cell? ⟨p, 1, none⟩ = some (.bool st)) := Lib.hid (by
          have e0 := HG9.out
          have q0 := H9.out.cell' HWN.out.c0 (fun e => HNRP.out e)
          have q1 := H9.out.cell' HWN.out.c1 (fun e => HNRP.out e)
          have hnp0 : v.ownBlock ≠ some p := HWN.out.np
          have e1 : Only (fun x => v.ownBlock = some x) w9 W5 := HGV.out
          rw [hw3]
          exact ⟨by rw [cell_other (fun e => by injection e with _ e _; omega)]; exact e1.cell' q0 hnp0, by rw [cell_other (fun e => by injection e with _ e _; omega)]; exact e1.cell' q1 hnp0⟩)
        have HALL := Lib.hid (kept_more2 (T := fun q => q = rp) (v' := (.slice (some ⟨gq, 0, none⟩) (L.length + 1) bc : Value)) (d := ⟨xn, t1a, t1n, t1c, xq, t2a, t2n, t2c, xa⟩) HWN.out (fun q s e => by have := HRP.out; omega) H9.out HG3.out HKK.out ⟨HT1.out.1, HT1.out.2.1, HT1.out.2.2.1⟩ ⟨HT2.out.1, HT2.out.2.1, HT2.out.2.2.1⟩ HT1.out.2.2.2 HT2.out.2.2.2)
        have HWN3 : Hid (WnAt (fun q => q0 ≤ q) w3 p (m : Int) st (.slice (some ⟨gq, 0, none⟩) (L.length + 1) bc : Value) (L ++ [⟨xn, t1a, t1n, t1c, xq, t2a, t2n, t2c, xa⟩])) := Lib.hid ((⟨HC0.out.1, HC0.out.2, HC3.out.1, HC3.out.2, HOW3.out, HNP9.out, (by rw [hl1]; have := HLl.out; omega), HWN.out.mo, (fun x hx => by
          rcases List.mem_append.1 hx with hx | hx
          · exact HWN.out.nb x hx
          · rw [List.mem_singleton] at hx; subst hx; exact HXN.out), .inl HWN.out.sp, (fun k e => (HKK.out k e).elim (fun e => .inl (HWN.out.sv k e)) (fun e => .inr (Nat.le_trans H9.out.size e))), HALL.out⟩ : WnAt (fun q => q0 ≤ q ∨ wr.heap.size ≤ q) w3 p (m : Int) st (.slice (some ⟨gq, 0, none⟩) (L.length + 1) bc : Value) (L ++ [⟨xn, t1a, t1n, t1c, xq, t2a, t2n, t2c, xa⟩])).mono (fun q s => s.elim (fun s => s) (fun s => Nat.le_trans HQS.out s)))
        have HRS3 : Hid (RS (fun q => q < q0 ∧ q ≠ rp) w3 rp (rdN (i + 1) (wS4 b)).2) := Lib.hid (by rw [HENT.out]; exact HRX.out.only HG3.out (fun s => s.elim (fun e => HNRP.out e.symm) (fun e => by have := HVS.out rp e; have := HRP.out; omega)) (fun q hq s => s.elim (fun e => by have := HWN.out.sp; omega) (fun e => by have := HVS.out q e; omega)))
        have HO3 : Hid (Only (fun _ => False) w w3) := Lib.hid (HO.out.then ((H9.out.mono (T := fun q => q = rp ∨ (q = p ∨ v.ownBlock = some q)) (fun _ _ e => Or.inl e)).trans (HG3.out.mono (fun _ _ e => Or.inr e))) (fun q hq s => by
          rcases s with s | s | s
          · have := HRPW.out; omega
          · have := HWN.out.sp; have := HQW.out; omega
          · have := HVS.out q s; have := HQW.out; omega))
        have HQS3 : Hid (q0 ≤ w3.heap.size) := Lib.hid (by have := H9.out.size; have := HG3.out.size; have := HQS.out; omega)
        have HMP : Hid ((L ++ [(⟨xn, t1a, t1n, t1c, xq, t2a, t2n, t2c, xa⟩ : Kd)]).map Kd.kp = (rdN (i + 1) (wS4 b)).1) := Lib.hid (by rw [List.map_append, HLK.out, HENT.out]; rfl)
        have hll3 : (L ++ [(⟨xn, t1a, t1n, t1c, xq, t2a, t2n, t2c, xa⟩ : Kd)]).length ≤ cnt := by rw [hl1]; have := HLl.out; omega
        rw [← hw3]
        clear hll3 hl1
        clear hw3 d2 f2 HOW12 HG9 HT1 HT2 hot HSL HAL HSZ HC3 HC0 HALL HOW3 HG3 HNP9 HKK H9 HRX HU HTA HTB HS1 HS2 HWN HO HQS
        go_wp2_with fail
        go_roundw
        case rel => exact ⟨i + 1, _, _, by omega, by go_num, HMP, HWN3, HRS3, HO3, HQS3⟩
        case measure => simp [intOf]; omega
      · obtain rfl : i = cnt := by omega
        have hnl : ¬ (i : Int) < i := by omega
        have HK : Hid (wK b = L.map Kd.kp) := Lib.hid (by unfold wK; rw [HCN.out]; exact HLK.out.symm)
        have HEN := Lib.hid (gend _ rp (rdN i (wS4 b)).2 wr HRS.out)
        have HS5 : Hid (wS5 b = (rdN i (wS4 b)).2) := Lib.hid (by unfold wS5; rw [HCN.out])
        rw [← HS5.out] at HEN
        have HLA : Hid (∀ w', Only (fun _ => False) wr w' → Calls Try.prog 32 #[.pointer (some ⟨p, 0, none⟩)] w' fun e w'' => e = .returned (.int .i64 (lastK (wK b))) ∧ Only (fun _ => False) w' w'') := Lib.hid (fun w' ho => by rw [HK.out]; exact wlast_any p (m : Int) st v L w' (HWN.out.quiet ho))
        have HFO : Hid (∀ w', Only (fun _ => False) wr w' → Calls Try.prog 84 #[.pointer (some ⟨p, 0, none⟩)] w' fun e w'' => e = .returned (.bool (folP st m (wK b))) ∧ Only (fun _ => False) w' w'') := Lib.hid (fun w' ho => by rw [HK.out]; exact follow_any p m st v L w' (HWN.out.quiet ho))
        have HWS : Hid (∀ w', Only (fun _ => False) wr w' → WS (fun q => w.heap.size ≤ q) w' p (m : Int) st (wK b)) := Lib.hid (fun w' ho => ⟨v, L, HK.out.symm, (HWN.out.quiet ho).mono (fun q s => Nat.le_trans HQW.out s)⟩)
        have HNO : Hid (∀ w', Only (fun _ => False) wr w' → ¬ okW b → ReadW w b (.returned (.tuple #[.pointer none, .int .i64 2])) w') := Lib.hid (fun w' ho hn => ⟨HO.out.trans ho, .inr ⟨hn, rfl⟩⟩)
        have HYES : Hid (∀ w', Only (fun _ => False) wr w' → okW b → ReadW w b (.returned (.tuple #[.pointer (some ⟨p, 0, none⟩), .int .i64 0])) w') := Lib.hid (fun w' ho hy => ⟨HO.out.trans ho, .inl ⟨hy, p, rfl, by rw [HM.out, HST.out]; exact HWS.out w' ho, by have := HPQ.out; omega⟩⟩)
        have HOKD : Hid (okW b ↔ (wS5 b = some [] ∧ z = lastK (wK b) ∧ folP st m (wK b) = true)) := Lib.hid (by unfold okW; rw [HM.out, HST.out, HZ.out]; exact ⟨fun q => q.2, fun q => ⟨hm1, q⟩⟩)
        generalize wS5 b = s5 at *
        generalize lastK (wK b) = Z at *
        generalize folP st m (wK b) = FP at *
        clear HWS HRS HLK hLl HK HS5 HWN HQS
        go_wp2_with fail
        refine HEN.out.mono ?_
        rintro _ _ ⟨⟨er, rfl, her⟩, rfl⟩
        by_cases h0 : er = 0
        · have hs5 := her.1 h0
          subst h0
          by_cases hz9 : z = Z
          · have hzb : (z != Z) = false := by simpa using hz9
            have HLA1 := Lib.hid (HLA.out wr (Only.refl _ _))
            cases FP
            · have HN : Hid (¬ okW b) := Lib.hid (fun q => by cases (HOKD.out.1 q).2.2)
              clear her hz9 hs5
              go_wp2_with fail
              refine HLA1.out.mono ?_
              rintro _ w7 ⟨rfl, ho⟩
              have HO7 := Lib.hid ho
              clear ho
              go_wp2_with fail
              refine (HFO.out w7 HO7.out).mono ?_
              rintro _ w8 ⟨rfl, ho⟩
              have HFIN := Lib.hid (HNO.out w8 (HO7.out.trans ho) HN.out)
              clear ho
              go_wp2_with fail
              go_ret2
              exact HFIN.out
            · have HN : Hid (okW b) := Lib.hid (HOKD.out.2 ⟨hs5, hz9, rfl⟩)
              clear her hz9 hs5
              go_wp2_with fail
              refine HLA1.out.mono ?_
              rintro _ w7 ⟨rfl, ho⟩
              have HO7 := Lib.hid ho
              clear ho
              go_wp2_with fail
              refine (HFO.out w7 HO7.out).mono ?_
              rintro _ w8 ⟨rfl, ho⟩
              have HFIN := Lib.hid (HYES.out w8 (HO7.out.trans ho) HN.out)
              clear ho
              go_wp2_with fail
              go_ret2
              exact HFIN.out
          · have hzb : (z != Z) = true := by simpa using hz9
            have HN : Hid (¬ okW b) := Lib.hid (fun q => hz9 (HOKD.out.1 q).2.1)
            have HLA1 := Lib.hid (HLA.out wr (Only.refl _ _))
            clear her hz9 hs5
            go_wp2_with fail
            refine HLA1.out.mono ?_
            rintro _ w7 ⟨rfl, ho⟩
            have HFIN := Lib.hid (HNO.out w7 ho HN.out)
            clear ho
            go_wp2_with fail
            go_ret2
            exact HFIN.out
        · have heb : ((er : Int) != 0) = true := by rw [bne_iff_ne]; omega
          have HN : Hid (¬ okW b) := Lib.hid (fun q => h0 (her.2 (HOKD.out.1 q).1))
          have HFIN := Lib.hid (HNO.out wr (Only.refl _ _) HN.out)
          clear her h0
          go_wp2_with fail
          go_ret2
          exact HFIN.out
  · go_wp2_with fail
    refine (wnew_no (m : Int) st w3 (fun q => hm1 (by omega))).mono ?_
    rintro _ w4 ⟨rfl, ho⟩
    have HFIN : Hid (ReadW w b (.returned (.tuple #[.pointer none, .int .i64 2])) w4) := Lib.hid ⟨HW3.out _ (HO3.out.trans (ho.mono (fun _ _ f => f.elim))), .inr ⟨fun q => hm1 (by rw [← HM.out]; exact q.1), rfl⟩⟩
    clear ho hm1
    go_wp2_with fail
    go_ret2
    exact HFIN.out
end Go.Proofs.Ytpjbgcbjelcnbaa.wnd
