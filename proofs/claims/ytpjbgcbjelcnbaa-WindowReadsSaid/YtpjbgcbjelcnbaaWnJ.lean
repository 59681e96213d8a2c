/- The document's window: Look. -/
import Derived.Test.YtpjbgcbjelcnbaaWnI
namespace Go.Proofs.Ytpjbgcbjelcnbaa.wnd
open Go.RowKit mem rowz dskw
set_option linter.unusedVariables false

theorem findK_step (P : Kp → Bool) (K : List Kp) {i : Nat} (h : i < K.length) : (K.drop i).find? P = if P (K.getD i default) = true then some (K.getD i default) else (K.drop (i + 1)).find? P := by
  have e : K.drop i = K.getD i default :: K.drop (i + 1) := by rw [List.drop_eq_getElem_cons h]; simp [List.getD, h]
  rw [e, List.find?_cons]
  cases P (K.getD i default) <;> simp
theorem strN_ne {l r : List Nat} (hl : ∀ c ∈ l, c < 256) (hr : ∀ c ∈ r, c < 256) (h : l ≠ r) : ¬ (strN l).toList = (strN r).toList := by
  intro e
  have e2 : strN l = strN r := by
    have : (strN l).data.toList = (strN r).data.toList := by simpa [ByteArray.toList_eq] using e
    exact ByteArray.ext (Array.toList_inj.1 this)
  exact h (strN_inj hl hr e2)
/-- what the document's Look answers -/
def LookedD (w : World) (E : Int) (A : List Nat) (e : Ending) (w' : World) : Prop := e = .returned (.tuple #[.string (strN A), .int .i64 E]) ∧ Only (fun _ => False) w w'
set_option maxRecDepth 100000 in
set_option maxHeartbeats 4000000 in
theorem rlook_any (r m : Nat) (strict : Bool) (v : Value) (D : List Kp) (n : Int) (q : List Nat) (w : World) (h : DwAt w r m strict v D) (hq : ∀ c ∈ q, c < 256) : Calls Try.prog 79 #[.pointer (some ⟨r, 0, none⟩), .int .i64 n, .string (strN q)] w (LookedD w (lookE (keptD m D) strict n q) (lookA (keptD m D) strict n q)) := by
  have HD := Lib.hid h
  have HQ := Lib.hid hq
  have HKO := Lib.hid (fun k hk => getK_ok (fun x hx => h.ok x (keptD_mem hx)) (k := k) hk : ∀ k, k < (keptD m D).length → KOk ((keptD m D).getD k default))
  have HLK := Lib.hid (keptD_last m D h.mo.1)
  have hkl : (keptD m D).length ≤ 64 := by have := keptD_len m D; have := h.mo.2; omega
  have hnb : -1 ≤ lastK D ∧ lastK D ≤ 4611686018427387904 := by
    unfold lastK
    by_cases h0 : D.length = 0
    · rw [if_pos h0]; omega
    · rw [if_neg h0]
      have := (getK_ok h.ok (k := D.length - 1) (by omega)).2.2.2.2
      omega
  have HZ : Hid (∃ z, z = (strN []) ∧ z = ByteArray.empty) := Lib.hid ⟨_, rfl, rfl⟩
  have HE0 : Hid (Value.string { data := #[] } = .string (strN [])) := Lib.hid rfl
  clear h hq
  by_cases hn : n < 0 ∨ 4611686018427387904 < n
  · have hE : lookE (keptD m D) strict n q = 1 := by unfold lookE lookR; rw [if_pos hn]
    have hA : lookA (keptD m D) strict n q = [] := by unfold lookA lookR; rw [if_pos hn]
    rw [hE, hA]
    clear hE hA hnb hkl
    by_cases h1 : n < 0
    · clear hn
      go_enter Try.func79, Try.ntmps79
      go_wp2_with fail
      go_ret2
      exact ⟨rfl, Only.refl _ _⟩
    · have h2 : 4611686018427387904 < n := hn.resolve_left h1
      clear hn
      go_enter Try.func79, Try.ntmps79
      go_wp2_with fail
      go_ret2
      exact ⟨rfl, Only.refl _ _⟩
  · have hn1 : ¬ n < 0 := fun q => hn (.inl q)
    have hn2 : ¬ 4611686018427387904 < n := fun q => hn (.inr q)
    have hE : lookE (keptD m D) strict n q = (lookK (keptD m D) strict n q).1 := by unfold lookE lookR; rw [if_neg hn]
    have hA : lookA (keptD m D) strict n q = (lookK (keptD m D) strict n q).2 := by unfold lookA lookR; rw [if_neg hn]
    rw [hE, hA]
    have HK := Lib.hid (rkept_any r m strict v D w HD.out)
    have HLA : Hid (∀ w', Only (fun _ => False) w w' → _) := Lib.hid (fun w' (ho : Only (fun _ => False) w w') => rlast_any r m strict v D w' (HD.out.quiet ho))
    have HC1 : Hid (∀ w', Only (fun _ => False) w w' → w'.cell? ⟨r, 1, none⟩ = some (.bool strict)) := Lib.hid (fun w' ho => (HD.out.quiet ho).c1)
    have hlk : lookK (keptD m D) strict n q = match (keptD m D).find? (fun x => decide (x.n = n)) with
      | some x => if x.q = q then (0, x.a) else (14, [])
      | none => if n ≤ lastK D then (13, []) else if strict = true ∧ n ≠ lastK D + 1 then (15, []) else (7, []) := by
      unfold lookK; rw [HLK.out]; rfl
    rw [hlk]
    obtain ⟨R, hR⟩ : ∃ R, R = (match (keptD m D).find? (fun x => decide (x.n = n)) with
      | some x => if x.q = q then ((0 : Int), x.a) else (14, [])
      | none => if n ≤ lastK D then (13, []) else if strict = true ∧ n ≠ lastK D + 1 then (15, []) else (7, [])) := ⟨_, rfl⟩
    rw [← hR]
    have HR := Lib.hid hR
    clear hE hA hn hlk HLK hR
    generalize keptD m D = K at *
    generalize lastK D = Z at *
    obtain ⟨hz1, hz2⟩ := hnb
    go_enter Try.func79, Try.ntmps79
    go_wp2_with fail
    refine HK.out.mono ?_
    rintro _ w1 ⟨ka, kc, rfl, hkr, ho⟩
    have HO1 := Lib.hid ho
    have HKR := Lib.hid hkr
    clear HK ho hkr
    obtain ⟨len, hln⟩ : ∃ x, K.length = x := ⟨_, rfl⟩
    have HLN := Lib.hid hln
    rw [hln] at HKR hkl ⊢
    clear hln
    go_wp2_with fail
    go_loopw [9] (fun iv wr => ∃ i : Nat, i ≤ len ∧ iv = .int .i64 (i : Int) ∧ Hid ((K.drop i).find? (fun x => decide (x.n = n)) = K.find? (fun x => decide (x.n = n))) ∧ w1 = wr) (fun iv _ => len - (intOf iv).toNat)
    case atStart => exact ⟨0, by omega, rfl, Lib.hid rfl, rfl⟩
    case round =>
      obtain ⟨i, hi, rfl, HF, rfl⟩ := hrel
      by_cases h8 : i < len
      · obtain ⟨b, off, rfl, hcell⟩ := HKR.out.2.resolve_left (by omega)
        obtain ⟨c0, c1, c2⟩ := hcell i h8
        have hko := HKO.out i (by rw [HLN.out]; exact h8)
        have hst := HF.out
        rw [findK_step _ K (by rw [HLN.out]; exact h8)] at hst
        generalize K.getD i default = x at *
        obtain ⟨xn, xq, xa⟩ := x
        dsimp only at c0 c1 c2 hst
        have HSX := Lib.hid hst
        have hin : (i : Int) < len := by omega
        have hi0 : (0 : Int) ≤ i := by omega
        have hi64 : (i : Int) ≤ 64 := by omega
        clear hcell hst
        by_cases hx : xn = n
        · have hfx := HSX.out
          rw [if_pos (decide_eq_true hx)] at hfx
          have hr := HR.out
          rw [← hfx] at hr
          dsimp only at hr
          by_cases hqq : xq = q
          · rw [if_pos hqq] at hr
            replace HR := Lib.hid hr
            subst hqq
            have hxb : (xn == n) = true := by simpa using hx
            have hZ0 : ((strN xq).toList == (strN xq).toList) = true := by simp
            clear hfx HSX HF hko hx hr
            go_wp2_with fail
            go_ret2
            exact ⟨by rw [HR.out]; rfl, HO1.out⟩
          · rw [if_neg hqq] at hr
            replace HR := Lib.hid hr
            have hxb : (xn == n) = true := by simpa using hx
            have hne : ((strN xq).toList == (strN q).toList) = false := by simpa using strN_ne hko.1 HQ.out hqq
            clear hfx HSX HF hko hx hqq hr
            go_wp2_with fail
            go_ret2
            exact ⟨by rw [HR.out]; rfl, HO1.out⟩
        · have hfx := HSX.out
          rw [if_neg (by simpa using hx)] at hfx
          have HFX := Lib.hid hfx
          have hxb : (xn == n) = false := by simpa using hx
          clear hfx HSX HF hko hx
          go_wp2_with fail
          go_roundw
          case rel => exact ⟨i + 1, by omega, by go_num, HFX, trivial⟩
          case measure => simp [intOf]; omega
      · obtain rfl : i = len := by omega
        have hfx := HF.out
        rw [List.drop_eq_nil_of_le (by rw [HLN.out]; omega)] at hfx
        have hfx : K.find? (fun x => decide (x.n = n)) = none := hfx.symm
        have hr := HR.out
        rw [hfx] at hr
        dsimp only at hr
        have HL1 := Lib.hid (HLA.out w1 HO1.out)
        clear hfx HF h8
        by_cases hle : n ≤ Z
        · rw [if_pos hle] at hr
          replace HR := Lib.hid hr
          clear hr
          go_wp2_with fail
          refine HL1.out.mono ?_
          rintro _ w2 ⟨rfl, ho⟩
          have HO2 := Lib.hid (HO1.out.trans ho)
          clear ho
          go_wp2_with fail
          go_ret2
          exact ⟨by rw [HR.out]; rfl, HO2.out⟩
        · rw [if_neg hle] at hr
          cases strict
          · rw [if_neg (by simp)] at hr
            replace HR := Lib.hid hr
            clear hr
            go_wp2_with fail
            refine HL1.out.mono ?_
            rintro _ w2 ⟨rfl, ho⟩
            have HO2 := Lib.hid (HO1.out.trans ho)
            have c1 := HC1.out w2 HO2.out
            clear ho
            go_wp2_with fail
            go_ret2
            exact ⟨by rw [HR.out]; rfl, HO2.out⟩
          · have q1 : IntKind.i64.wrap (Z + 1) = Z + 1 := by rw [IntKind.wrap_i64]; omega
            by_cases hn9 : n = Z + 1
            · rw [if_neg (fun q => q.2 hn9)] at hr
              replace HR := Lib.hid hr
              clear hr
              have hbb : (n != Z + 1) = false := by simpa using hn9
              clear hn9 hz1 hz2
              go_wp2_with fail
              refine HL1.out.mono ?_
              rintro _ w2 ⟨rfl, ho⟩
              have HO2 := Lib.hid (HO1.out.trans ho)
              have c1 := HC1.out w2 HO2.out
              have HL2 := Lib.hid (HLA.out w2 HO2.out)
              clear ho HL1
              go_wp2_with fail
              refine HL2.out.mono ?_
              rintro _ w3 ⟨rfl, ho⟩
              have HO3 := Lib.hid (HO2.out.trans ho)
              clear ho
              go_wp2_with fail
              go_ret2
              exact ⟨by rw [HR.out]; rfl, HO3.out⟩
            · rw [if_pos ⟨rfl, hn9⟩] at hr
              replace HR := Lib.hid hr
              clear hr
              have hbb : (n != Z + 1) = true := by simpa using hn9
              clear hn9 hz1 hz2
              go_wp2_with fail
              refine HL1.out.mono ?_
              rintro _ w2 ⟨rfl, ho⟩
              have HO2 := Lib.hid (HO1.out.trans ho)
              have c1 := HC1.out w2 HO2.out
              have HL2 := Lib.hid (HLA.out w2 HO2.out)
              clear ho HL1
              go_wp2_with fail
              refine HL2.out.mono ?_
              rintro _ w3 ⟨rfl, ho⟩
              have HO3 := Lib.hid (HO2.out.trans ho)
              clear ho
              go_wp2_with fail
              go_ret2
              exact ⟨by rw [HR.out]; rfl, HO3.out⟩
end Go.Proofs.Ytpjbgcbjelcnbaa.wnd
