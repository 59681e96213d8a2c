/- TimerMany's walk. -/
import Derived.Test.YtephajjcdklloaaTmI
import Derived.Deep.CutBlock
namespace Go.Proofs.Ytephajjcdklloaa.tmw
open Go.RowKit mem rowz
set_option linter.unusedVariables false

theorem insM_end (x : Tm) : ∀ r : List Tm, (∀ y ∈ r, ltM y x) → insM x r = r ++ [x]
  | [], _ => rfl
  | y :: r, h => by
    unfold insM
    rw [if_pos (h y List.mem_cons_self), insM_end x r fun z hz => h z (List.mem_cons_of_mem _ hz)]
    rfl
theorem remM_len (g : Int) : ∀ l : List Tm, (∃ x ∈ l, x.i = g) → (remM g l).length + 1 = l.length
  | [], h => by obtain ⟨x, hx, _⟩ := h; cases hx
  | p :: r, h => by
    unfold remM
    split
    · rfl
    · rename_i e
      obtain ⟨x, hx, hg⟩ := h
      rcases List.mem_cons.1 hx with rfl | hx
      · exact absurd hg e
      · have := remM_len g r ⟨x, hx, hg⟩
        simp only [List.length_cons]
        omega
/-- the law's many -/
def Many (f : Int) (i : Nat) (l : List Tm) : Prop := l.length = i ∧ (∀ x ∈ l, (f ≤ x.i ∧ x.i < f + i) ∧ x.a < 5000) ∧ (0 < i → ∃ x ∈ l, x.i = f)
theorem Many.next {f : Int} {i : Nat} {l : List Tm} (h : Many f i l) (hg : Good l) {a : Int} (ha : a < 5000) : remM (f + i) l = l ∧ Many f (i + 1) (putM ⟨a, f + i⟩ l) := by
  obtain ⟨h1, h2, h3⟩ := h
  have e : remM (f + i) l = l := remM_none _ _ fun x hx => by have := h2 x hx; omega
  refine ⟨e, ?_, fun x hx => ?_, fun _ => ?_⟩
  · unfold putM
    show (insM _ (remM (f + i) l)).length = _
    rw [e, insM_len, h1]
  · rcases (put_mem _ x l hg.2.1).1 hx with rfl | ⟨hx, _⟩
    · exact ⟨⟨by show f ≤ f + (i : Int); omega, by show f + (i : Int) < f + ((i + 1 : Nat) : Int); omega⟩, ha⟩
    · have := h2 x hx; exact ⟨by omega, this.2⟩
  · by_cases hi : i = 0
    · subst hi
      exact ⟨⟨a, f + (0 : Nat)⟩, (put_mem _ _ l hg.2.1).2 (.inl rfl), by show f + ((0 : Nat) : Int) = f; omega⟩
    · obtain ⟨x, hx, e⟩ := h3 (by omega)
      exact ⟨x, (put_mem _ _ l hg.2.1).2 (.inr ⟨hx, by show x.i ≠ f + (i : Int); omega⟩), e⟩
theorem Many.last {f : Int} {l : List Tm} (h : Many f 1024 l) (hg : Good l) : remM (f + 2000) l = l ∧ (remM f l).length = 1023 ∧ (dueM 5000 (putM ⟨6000, f⟩ l)).length = 1023 ∧ (leftM 5000 (putM ⟨6000, f⟩ l)).length = 1 := by
  obtain ⟨h1, h2, h3⟩ := h
  have e1 := remM_len f l (h3 (by omega))
  have hr : ∀ y ∈ remM f l, y.a < 5000 := fun y hy => (h2 y ((remM_sub f l).subset hy)).2
  have e2 : putM ⟨6000, f⟩ l = remM f l ++ [⟨6000, f⟩] := insM_end _ _ fun y hy => by
    left; have := hr y hy; show y.a < 6000; omega
  have e3 : dueM 5000 (putM ⟨6000, f⟩ l) = remM f l := by
    rw [e2]
    unfold dueM
    rw [List.takeWhile_append_of_pos (by intro y hy; simpa using hr y hy)]
    simp
  have e4 := congrArg List.length (due_left 5000 (putM ⟨6000, f⟩ l))
  rw [List.length_append, e3, e2, List.length_append] at e4
  refine ⟨remM_none _ _ fun x hx => by have := h2 x hx; omega, by omega, by rw [e3]; omega, ?_⟩
  rw [e2]
  simp only [List.length_cons, List.length_nil] at e4
  omega
theorem wrap64_eq (n : Int) : wrap64 n = (n + 9223372036854775808) % 18446744073709551616 - 9223372036854775808 := by unfold wrap64; rfl
theorem tmod_in (y m : Int) (hm : 0 < m) (hm2 : m ≤ 100000000000000000) : 0 ≤ wrap64 ((IntKind.u64.wrap y).tmod m) ∧ wrap64 ((IntKind.u64.wrap y).tmod m) < m := by
  have e : IntKind.u64.wrap y = y % 18446744073709551616 := by rw [IntKind.wrap_u64]
  have h0 : 0 ≤ y % 18446744073709551616 := Int.emod_nonneg _ (by omega)
  rw [e, Int.tmod_eq_emod_of_nonneg h0]
  have h1 := Int.emod_nonneg (y % 18446744073709551616) (show m ≠ 0 by omega)
  have h2 := Int.emod_lt_of_pos (y % 18446744073709551616) hm
  rw [wrap64_eq]
  omega
set_option maxRecDepth 100000 in
set_option maxHeartbeats 4000000 in
theorem tmany_any (fr : Int) (a : Option Addr) (len cap : Nat) (ts : List Int) (w : World) (h : ReadsI w a len ts) (hf : InK fr) :
    Calls Try.prog 6 #[.int .i64 fr, .slice a len cap] w fun e w' => e = .returned (.bool true) ∧ Only (fun _ => False) w w' := by
  have HR := Lib.hid h
  have HF := Lib.hid hf
  clear h hf
  go_enter Try.func6, Try.ntmps6
  go_wp2_with fail
  refine (tnewB w.heap.size w (Nat.le_refl _)).mono ?_
  rintro _ w1 ⟨p, rfl, ht, ho⟩
  have HT1 := Lib.hid ht
  have HO1 := Lib.hid ho
  clear ht ho
  go_wp2_with fail
  refine (timers_any _).mono ?_
  rintro _ w2 ⟨rfl, ho⟩
  have HT2 := Lib.hid (HT1.out.only ho)
  have HO2 := Lib.hid (HO1.out.trans ho)
  clear ho HT1 HO1
  obtain ⟨f0, hf0⟩ : ∃ f0, f0 = wrap64 ((IntKind.u64.wrap fr).tmod 1000) := ⟨_, rfl⟩
  have hf1 := tmod_in fr 1000 (by decide) (by decide)
  rw [← hf0] at hf1
  have hf2 : wrap64 (1 + f0) = 1 + f0 := by rw [wrap64_eq]; omega
  go_upto_block 0 with fail
  simp only [← hf0, hf2]
  clear hf0 hf2
  obtain ⟨f, hf⟩ : ∃ f, f = 1 + f0 := ⟨_, rfl⟩
  rw [← hf]
  have HF1 : Hid (1 ≤ f ∧ f ≤ 1000) := Lib.hid (by omega)
  clear hf1
  generalize IntKind.u64.wrap fr = x1
  generalize x1.tmod 1000 = x2
  clear hf
  have HMX := Lib.hid HR.out.2.1
  go_wp2_with fail
  go_loopw [6] (fun iv wr => ∃ (i : Nat) (l : List Tm), i ≤ 1024 ∧ iv = .int .i64 i ∧ Hid (TB w.heap.size wr p l) ∧ Hid (Many f i l) ∧ Hid (Only (fun _ => False) w wr)) (fun iv _ => 1024 - (intOf iv).toNat)
  case atStart => exact ⟨0, [], by omega, rfl, HT2, Lib.hid ⟨rfl, fun x hx => (by cases hx), fun h => absurd h (by omega)⟩, HO2⟩
  case round =>
    obtain ⟨i, l, hi, rfl, HT, HM, HO⟩ := hrel
    have hs := HO.out.size
    by_cases h8 : i < 1024
    · have hi1 : (i : Int) < 1024 := by omega
      have HST : Hid (∀ a' : Int, 0 ≤ a' → a' < 5000 → Calls Try.prog 19 #[.pointer (some ⟨p, 0, none⟩), .int .i64 (f + i), .int .i64 a'] wr fun e w' => e = .returned (.int .i64 0) ∧ (∃ l', TB w.heap.size w' p l' ∧ Many f (i + 1) l') ∧ Only (fun _ => False) w w') := Lib.hid fun a' ha ha2 => by
        have hF := HF1.out
        refine (tsetB w.heap.size p l a' (f + i) wr HT.out hs (by unfold InT; dsimp only; omega)).mono ?_
        rintro e w' ⟨rfl, ht, ho⟩
        obtain ⟨m1, m2⟩ := HM.out.next HT.out.good ha2
        have hl : (remM (f + i) l).length < 1024 := by rw [m1, HM.out.1]; exact h8
        rw [if_pos hl] at ht ⊢
        exact ⟨rfl, ⟨_, ht, m2⟩, HO.out.then ho (fun q hq e => by omega)⟩
      have hwf : wrap64 (f + i) = f + i := by have := HF1.out; rw [wrap64_eq]; omega
      by_cases h9 : i < len
      · have hil : (i : Int) < len := by omega
        obtain ⟨b, off, rfl, hc⟩ := HR.out.2.2.2.resolve_left (by omega)
        have e1 := HO.out.cell' (hc i h9) (fun f => f)
        clear hc
        generalize ts.getD i 0 = y at *
        have HYA := Lib.hid (tmod_in y 5000 (by decide) (by decide))
        go_wp2_with fail
        refine (HST.out _ HYA.out.1 HYA.out.2).mono ?_
        rintro _ w3 ⟨rfl, ⟨l', ht, hm⟩, ho⟩
        have HT3 := Lib.hid ht
        have HM3 := Lib.hid hm
        have HO3 := Lib.hid ho
        clear ht hm ho HST
        go_wp2_with fail
        go_roundw
        case rel => exact ⟨i + 1, l', by omega, by go_num, HT3, HM3, HO3⟩
        case measure => simp [intOf]; omega
      · have hil : ¬ (i : Int) < len := by omega
        have HIX := Lib.hid hi1
        go_wp2_with fail
        refine (HST.out _ (by omega) (by have := HIX.out; omega)).mono ?_
        rintro _ w3 ⟨rfl, ⟨l', ht, hm⟩, ho⟩
        have HT3 := Lib.hid ht
        have HM3 := Lib.hid hm
        have HO3 := Lib.hid ho
        clear ht hm ho HST
        go_wp2_with fail
        go_roundw
        case rel => exact ⟨i + 1, l', by omega, by go_num, HT3, HM3, HO3⟩
        case measure => simp [intOf]; omega
    · obtain rfl : i = 1024 := by omega
      obtain ⟨m1, m2, m3, m4⟩ := HM.out.last HT.out.good
      have hwf : wrap64 (f + 2000) = f + 2000 := by have := HF1.out; rw [wrap64_eq]; omega
      have HML := Lib.hid HM.out.1
      have HM1 := Lib.hid m1
      have HM2 := Lib.hid m2
      have HM3 := Lib.hid m3
      have HM4 := Lib.hid m4
      clear m1 m2 m3 m4
      go_wp2_with fail
      refine (tsetB w.heap.size p l 1 (f + 2000) wr HT.out hs (by have := HF1.out; unfold InT; dsimp only; omega)).mono ?_
      rintro _ w3 ⟨rfl, ht, ho⟩
      have hl : ¬ (remM (f + 2000) l).length < 1024 := by rw [HM1.out, HML.out]; omega
      rw [if_neg hl, HM1.out] at ht
      rw [if_neg hl]
      have HT3 := Lib.hid ht
      have HO3 := Lib.hid (HO.out.then ho (fun q hq e => by omega))
      have hs3 := HO3.out.size
      clear ht ho hl HT HO hs
      go_wp2_with fail
      refine (tsetB w.heap.size p l 6000 f w3 HT3.out hs3 (by have := HF1.out; unfold InT; dsimp only; omega)).mono ?_
      rintro _ w4 ⟨rfl, ht, ho⟩
      have hl : (remM f l).length < 1024 := by rw [HM2.out]; omega
      rw [if_pos hl] at ht ⊢
      have HT4 := Lib.hid ht
      have HO4 := Lib.hid (HO3.out.then ho (fun q hq e => by omega))
      clear ht ho hl HT3 HO3 hs3
      go_wp2_with fail
      refine (tdueB w.heap.size p _ 5000 w4 HT4.out).mono ?_
      rintro _ w5 ⟨a5, c5, rfl, hr, ha5, ht, ho⟩
      have HT5 := Lib.hid ht
      have HO5 := Lib.hid (HO4.out.then ho (fun q hq e => by omega))
      clear ht ho hr ha5 HT4 HO4
      rw [List.length_map, HM3.out]
      go_wp2_with fail
      refine (tlenB _ _ _ _ HT5.out).mono ?_
      rintro _ w6 ⟨rfl, ho⟩
      have HO6 := Lib.hid (HO5.out.trans ho)
      rw [HM4.out]
      clear ho HO5 HT5
      go_wp2_with fail
      go_ret
      exact ⟨rfl, HO6.out⟩
theorem tmany_walk (fr : Int) (a : Option Addr) (len cap : Nat) (w : World) (hf : InK fr) (h : ∃ l, IntsR w a len cap l) :
    Calls Try.prog 6 #[.int .i64 fr, .slice a len cap] w fun e w' => e = .returned (.bool true) ∧ Below w.heap.size w w' :=
  h.elim fun l h => (tmany_any fr a len cap l w h.1 hf).mono fun _ _ ⟨h1, h2⟩ => ⟨h1, h2.none⟩
end Go.Proofs.Ytephajjcdklloaa.tmw
