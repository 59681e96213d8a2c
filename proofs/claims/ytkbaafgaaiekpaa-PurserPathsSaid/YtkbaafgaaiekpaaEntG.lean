/- Entries: Make. -/
import Derived.Test.YtkbaafgaaiekpaaEntF
namespace Go.Proofs.Ytkbaafgaaiekpaa.entw
open Go.RowKit mem entm
set_option linter.unusedVariables false

def noE : Value := .agg #[.int .i64 0, .slice none 0 0]
def NotMade (c : Int) (w : World) (e : Ending) (w' : World) : Prop := e = .returned (.tuple #[.agg #[.int .i64 0, .slice none 0 0], .int .i64 c]) ∧ Only (fun _ => False) w w'

def amB (amount : Int) : Prop := 1 ≤ amount ∧ amount ≤ 9007199254740992
instance (n : Int) : Decidable (amB n) := inferInstanceAs (Decidable (_ ∧ _))
def mkNo (kind amount : Int) (path : List Int) : Int := if kindB kind = false then 21 else if ¬ amB amount ∨ pathB path = false then 1 else 0

set_option maxHeartbeats 1000000 in
theorem make_no (kind amount gr : Int) (a : Option Addr) (len cap : Nat) (path : List Int) (w : World) (h : ReadsI w a len path) (hlc : len ≤ cap) (hcm : cap ≤ 9223372036854775807) (hno : mkNo kind amount path ≠ 0) :
    Calls Try.prog 55 #[.int .i64 kind, .int .i64 amount, .slice a len cap, .int .i64 gr] w (NotMade (mkNo kind amount path) w) := by
  have HO : Hid (∀ o, Only (fun _ => False) w (w.alloc o)) := Lib.hid (fun o => (Only.refl _ w).alloc o)
  cases hk : kindB kind with
  | false =>
    have HR : Hid (mkNo kind amount path = 21) := Lib.hid (by unfold mkNo; rw [if_pos hk])
    have HK := Lib.hid hk
    clear hk hno
    go_enter Try.func55, Try.ntmps55
    go_wp2_with fail
    refine (kind_any _ _).mono ?_
    rintro _ _ ⟨rfl, rfl⟩
    rw [HK.out]
    go_wp2_with fail
    rw [HR.out]
    refine bodyPost_ret (v := .tuple #[.agg #[.int .i64 0, .slice none 0 0], .int .i64 21]) (by simp [results, Try.results55, go_sem]) rfl ⟨rfl, HO.out _⟩
  | true =>
    have HK := Lib.hid hk
    by_cases h1 : amount < 1
    · have HR : Hid (mkNo kind amount path = 1) := Lib.hid (by unfold mkNo; rw [hk, if_neg (by simp), if_pos (.inl (by unfold amB; omega))])
      clear hk hno
      go_enter Try.func55, Try.ntmps55
      go_wp2_with fail
      refine (kind_any _ _).mono ?_
      rintro _ _ ⟨rfl, rfl⟩
      rw [HK.out]
      go_wp2_with fail
      rw [HR.out]
      refine bodyPost_ret (v := .tuple #[.agg #[.int .i64 0, .slice none 0 0], .int .i64 1]) (by simp [results, Try.results55, go_sem]) rfl ⟨rfl, HO.out _⟩
    · by_cases h2 : 9007199254740992 < amount
      · have HR : Hid (mkNo kind amount path = 1) := Lib.hid (by unfold mkNo; rw [hk, if_neg (by simp), if_pos (.inl (by unfold amB; omega))])
        clear hk hno
        go_enter Try.func55, Try.ntmps55
        go_wp2_with fail
        refine (kind_any _ _).mono ?_
        rintro _ _ ⟨rfl, rfl⟩
        rw [HK.out]
        go_wp2_with fail
        rw [HR.out]
        refine bodyPost_ret (v := .tuple #[.agg #[.int .i64 0, .slice none 0 0], .int .i64 1]) (by simp [results, Try.results55, go_sem]) rfl ⟨rfl, HO.out _⟩
      · have hp : pathB path = false := by
          cases hq : pathB path with
          | false => rfl
          | true => exact absurd (by unfold mkNo; rw [hk, if_neg (by simp), if_neg (by rw [hq]; unfold amB; simp; omega)]) hno
        have HR : Hid (mkNo kind amount path = 1) := Lib.hid (by unfold mkNo; rw [hk, if_neg (by simp), if_pos (.inr hp)])
        have HP := Lib.hid hp
        have HPA := Lib.hid (fun w' (ho : Only (fun _ => False) w w') => path_any a len cap path w' (h.only ho (fun _ _ f => f)) hlc hcm)
        clear hk hno hp h
        go_enter Try.func55, Try.ntmps55
        go_wp2_with fail
        refine (kind_any _ _).mono ?_
        rintro _ _ ⟨rfl, rfl⟩
        rw [HK.out]
        go_wp2_with fail
        refine (HPA.out _ (HO.out _)).mono ?_
        rintro _ _ ⟨rfl, rfl⟩
        rw [HP.out]
        go_wp2_with fail
        rw [HR.out]
        refine bodyPost_ret (v := .tuple #[.agg #[.int .i64 0, .slice none 0 0], .int .i64 1]) (by simp [results, Try.results55, go_sem]) rfl ⟨rfl, HO.out _⟩

theorem off_ne {b i j : Nat} (h : i ≠ j) : (⟨b, i, none⟩ : Addr) ≠ ⟨b, j, none⟩ := fun e => h (by injection e)
theorem set_two {w : World} {b : Nat} {u v x y : Value} (h0 : w.cell? ⟨b, 0, none⟩ = some u) (h1 : w.cell? ⟨b, 1, none⟩ = some v) :
    (w.setCell ⟨b, 0, none⟩ x).cell? ⟨b, 0, none⟩ = some x ∧ ((w.setCell ⟨b, 0, none⟩ x).setCell ⟨b, 1, none⟩ y).cell? ⟨b, 1, none⟩ = some y :=
  ⟨cell_same h0, cell_same (by rw [cell_other (off_ne (by omega))]; exact h1)⟩

/-- made, or why not: the legs in their order -/
def MadeAt (kind : Int) (raw : List Lg) (w : World) (e : Ending) (w' : World) : Prop :=
  ∃ g cap ls, ls.Perm raw ∧ Sorted ls ∧ w.heap.size ≤ g ∧ Only (fun _ => False) w w' ∧ ReadsL w' (some ⟨g, 0, none⟩) ls.length ls ∧
    ((chk kind ls = 0 ∧ e = .returned (.tuple #[.agg #[.int .i64 kind, .slice (some ⟨g, 0, none⟩) ls.length cap], .int .i64 0])) ∨
     (chk kind ls ≠ 0 ∧ e = .returned (.tuple #[.agg #[.int .i64 0, .slice none 0 0], .int .i64 (chk kind ls)])))

set_option maxHeartbeats 1000000 in
theorem make_yes (kind amount gr : Int) (hk : kindB kind = true) (ha : amB amount) (hg : InI gr) (a : Option Addr) (len cap : Nat) (path : List Int) (hp : pathB path = true) (w : World) (h : ReadsI w a len path) (hlc : len ≤ cap) (hcm : cap ≤ 9223372036854775807) :
    Calls Try.prog 55 #[.int .i64 kind, .int .i64 amount, .slice a len cap, .int .i64 gr] w (MadeAt kind (rawL kind amount gr path) w) := by
  have hpo : PathOK path := by unfold pathB at hp; simpa using hp
  have hl := h.1
  have HPA := Lib.hid (fun w' (ho : Only (fun _ => False) w w') => path_any a len cap path w' (h.only ho (fun _ _ f => f)) hlc hcm)
  have HLE := Lib.hid (fun w' (ho : Only (fun _ => False) w w') => legs_any kind amount hk ha gr hg a len cap path w' (h.only ho (fun _ _ f => f)) (by have := hpo.1; omega) (by have := hpo.2.1; omega))
  obtain ⟨ha1, ha2⟩ := ha
  have HO : Hid (∀ o, Only (fun _ => False) w (w.alloc o)) := Lib.hid (fun o => (Only.refl _ w).alloc o)
  have HK := Lib.hid hk
  have HP := Lib.hid hp
  clear hk hp hpo hl h hg
  generalize rawL kind amount gr path = raw at *
  go_enter Try.func55, Try.ntmps55
  go_wp2_with fail
  refine (kind_any _ _).mono ?_
  rintro _ _ ⟨rfl, rfl⟩
  rw [HK.out]
  go_wp2_with fail
  refine (HPA.out _ (HO.out _)).mono ?_
  rintro _ _ ⟨rfl, rfl⟩
  rw [HP.out]
  obtain ⟨w0, hw0⟩ : ∃ w0, w0 = w.alloc (Obj.cells #[Value.int IntKind.i64 0, Value.slice none 0 0] 68) := ⟨_, rfl⟩
  have HO0 : Hid (Only (fun _ => False) w w0) := by rw [hw0]; exact HO.out _ |> Lib.hid
  have HE0 : Hid (w0.cell? ⟨w.heap.size, 0, none⟩ = some (.int .i64 0) ∧ w0.cell? ⟨w.heap.size, 1, none⟩ = some (.slice none 0 0) ∧ w0.frozen? ⟨w.heap.size, 0, none⟩ = false ∧ w0.frozen? ⟨w.heap.size, 1, none⟩ = false) := Lib.hid (by
    rw [hw0]; exact ⟨alloc_new _ _ _ _ _ _ rfl rfl, alloc_new _ _ _ _ _ _ rfl rfl, by simp, by simp⟩)
  have HSZ : Hid (w0.heap.size = w.heap.size + 1) := Lib.hid (by rw [hw0, size_alloc])
  rw [← hw0]
  clear hw0
  go_wp2_with fail
  refine (HLE.out _ HO0.out).mono ?_
  rintro _ w1 ⟨g, cp, ls, rfl, hperm, hsort, hrd, hgw, ho1⟩
  have hc0 := ho1.cell' HE0.out.1 (fun f => f)
  have hc1 := ho1.cell' HE0.out.2.1 (fun f => f)
  have hf0 : w1.frozen? ⟨w.heap.size, 0, none⟩ = false := (ho1.frozen (p := ⟨w.heap.size, 0, none⟩) (by show w.heap.size < _; rw [HSZ.out]; omega) (fun f => f)).trans HE0.out.2.2.1
  have hf1 : w1.frozen? ⟨w.heap.size, 1, none⟩ = false := (ho1.frozen (p := ⟨w.heap.size, 1, none⟩) (by show w.heap.size < _; rw [HSZ.out]; omega) (fun f => f)).trans HE0.out.2.2.2
  have HO1 := Lib.hid (HO0.out.trans ho1)
  have HGW : Hid (w.heap.size + 1 ≤ g) := Lib.hid (by rw [HSZ.out] at hgw; exact hgw)
  have HRD := Lib.hid hrd
  have HPS := Lib.hid (And.intro hperm hsort)
  have HCK := Lib.hid (fun w' ho => check_any kind (some ⟨g, 0, none⟩) ls.length cp ls w' (hrd.only (S := fun _ => False) ho (fun _ _ f => f)))
  clear hperm hsort hrd hgw ho1
  go_wp2_with fail
  refine (HCK.out _ ((Only.refl _ _).alloc _)).mono ?_
  rintro _ w2 ⟨rfl, ho2⟩
  have HA := Lib.hid (((Only.refl (fun _ => False) w1).alloc (.cells #[.int .i64 kind, .slice (some ⟨g, 0, none⟩) ls.length cp] 68)).trans ho2)
  have k0 := HA.out.cell' hc0 (fun f => f)
  have k1 := HA.out.cell' hc1 (fun f => f)
  have hw1 : w.heap.size < w1.heap.size := World.block_lt_of_cell? w1 _ hc0
  have j0 : w2.frozen? ⟨w.heap.size, 0, none⟩ = false := (HA.out.frozen (p := ⟨w.heap.size, 0, none⟩) hw1 (fun f => f)).trans hf0
  have j1 : w2.frozen? ⟨w.heap.size, 1, none⟩ = false := (HA.out.frozen (p := ⟨w.heap.size, 1, none⟩) hw1 (fun f => f)).trans hf1
  have l0 := ho2.cell' (alloc_new w1 #[.int .i64 kind, .slice (some ⟨g, 0, none⟩) ls.length cp] 68 _ 0 _ rfl rfl) (fun f => f)
  have l1 := ho2.cell' (alloc_new w1 #[.int .i64 kind, .slice (some ⟨g, 0, none⟩) ls.length cp] 68 _ 1 _ rfl rfl) (fun f => f)
  have HRD2 := Lib.hid (HRD.out.only HA.out (fun _ _ f => f))
  have HO2 := Lib.hid (HO1.out.trans HA.out)
  have hne : w1.heap.size ≠ w.heap.size := by omega
  clear ho2 hc0 hc1 hf0 hf1
  have HS2 : Hid (∀ x y, Only (fun k => k = w.heap.size) w2 ((w2.setCell ⟨w.heap.size, 0, none⟩ x).setCell ⟨w.heap.size, 1, none⟩ y)) := Lib.hid (fun x y => ((Only.refl (fun k => k = w.heap.size) w2).setCell (p := ⟨w.heap.size, 0, none⟩) (.inl rfl) x).setCell (p := ⟨w.heap.size, 1, none⟩) (.inl rfl) y)
  by_cases hc : chk kind ls = 0
  · have HC := Lib.hid hc
    rw [hc]
    clear hc
    generalize hlen : ls.length = len2 at *
    have HLEN := Lib.hid hlen
    clear hlen
    go_wp2_with fail
    refine bodyPost_ret (v := .tuple #[.agg #[.int .i64 kind, .slice (some ⟨g, 0, none⟩) len2 cp], .int .i64 0]) ?_ rfl ⟨g, cp, ls, HPS.out.1, HPS.out.2, ?_, ?_, ?_, .inl ⟨HC.out, by rw [HLEN.out]⟩⟩
    · simp [results, Try.results55, go_sem, (set_two (x := .int .i64 kind) (y := .slice (some ⟨g, 0, none⟩) len2 cp) k0 k1).1, (set_two (x := .int .i64 kind) (y := .slice (some ⟨g, 0, none⟩) len2 cp) k0 k1).2]
    · have := HGW.out; omega
    · exact HO2.out.then (HS2.out _ _) (fun q hq e => by omega)
    · rw [HLEN.out]; exact HRD2.out.only (HS2.out _ _) (fun x hx e => by injection hx with hx; subst hx; have := HGW.out; exact absurd e (by show g ≠ w.heap.size; omega))
  · have HC := Lib.hid hc
    have hc1 : (chk kind ls == 0) = false := by simpa using hc
    have hc2 : (chk kind ls != 0) = true := by simpa using hc
    generalize hlen : ls.length = len2 at *
    generalize hcc : chk kind ls = c at *
    have HLEN := Lib.hid hlen
    have HCC := Lib.hid hcc
    clear hlen hc hcc
    go_wp2_with fail
    refine bodyPost_ret (v := .tuple #[.agg #[.int .i64 0, .slice none 0 0], .int .i64 c]) ?_ rfl ⟨g, cp, ls, HPS.out.1, HPS.out.2, ?_, ?_, ?_, .inr ⟨by rw [HCC.out]; exact HC.out, by rw [HCC.out]⟩⟩
    · simp [results, Try.results55, go_sem, (set_two (x := .int .i64 0) (y := .slice none 0 0) k0 k1).1, (set_two (x := .int .i64 0) (y := .slice none 0 0) k0 k1).2]
    · have := HGW.out; omega
    · exact HO2.out.then (HS2.out _ _) (fun q hq e => by omega)
    · rw [HLEN.out]; exact HRD2.out.only (HS2.out _ _) (fun x hx e => by injection hx with hx; subst hx; have := HGW.out; exact absurd e (by show g ≠ w.heap.size; omega))
end Go.Proofs.Ytkbaafgaaiekpaa.entw
