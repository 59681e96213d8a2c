/- The document's DocKeep; an act's number; rows of bytes of the call's own. -/
import Derived.Test.YtpjbgcbjelcnbaaWnJ
import Derived.Test.YtpjbgcbjelcnbaaOpW
import Derived.Laws.BitsAllLaws
namespace Go.Proofs.Ytpjbgcbjelcnbaa.wnd
open Go.RowKit mem rowz dskw
set_option linter.unusedVariables false

theorem info_one : (Try.prog.info? 136).map (fun i => (i.zero, i.size, i.bytes)) = some (some (.agg #[.int .i64 0, .string { data := #[] }, .string { data := #[] }]), 3, 40) := by kernel_rfl
theorem news_one {W : World} {g : Nat} {x : Kp} (hg : g = W.heap.size) (t : TypeId) : ∀ j u, (dvs [x])[j]? = some u → (W.alloc (.cells #[.int .i64 x.n, .string (strN x.q), .string (strN x.a)] t)).cell? ((Addr.mk g 0 none).add j) = some u := by
  intro j u hu
  rw [add_none, Nat.zero_add, hg, Go.Joins.cell_of_block (cs := #[.int .i64 x.n, .string (strN x.q), .string (strN x.a)]) (t := t) (fr := (0, 0)) (by rw [heap_alloc, if_pos rfl])]
  rw [← hu]; simp [dvs, ed]
theorem look7 {K : List Kp} {strict : Bool} {n : Int} {q : List Nat} (h : lookE K strict n q = 7) : 0 ≤ n ∧ n ≤ 4611686018427387904 := by
  unfold lookE lookR at h
  by_cases h1 : n < 0 ∨ 4611686018427387904 < n
  · rw [if_pos h1] at h; simp at h
  · omega
/-- what the document's DocKeep leaves -/
def KeptD (w : World) (r m : Nat) (strict : Bool) (v : Value) (E : Int) (D' : List Kp) (e : Ending) (w' : World) : Prop := e = .returned (.int .i64 E) ∧ (∃ v', DwAt w' r m strict v' D' ∧ ∀ k, v'.ownBlock = some k → v.ownBlock = some k ∨ w.heap.size ≤ k) ∧ Only (fun k => k = r ∨ v.ownBlock = some k) w w'
def docD (K D : List Kp) (strict : Bool) (x : Kp) : List Kp := if keepE K strict x = 0 then D ++ [x] else D
set_option maxRecDepth 100000 in
set_option maxHeartbeats 4000000 in
theorem rkeep_any (r m : Nat) (strict : Bool) (v : Value) (D : List Kp) (n : Int) (q a : List Nat) (w : World) (h : DwAt w r m strict v D) (hq : ∀ c ∈ q, c < 256) (ha : ∀ c ∈ a, c < 256) (hl : D.length ≤ 900) (hm1 : q.length ≤ maxLen) (hm2 : a.length ≤ maxLen) :
    Calls Try.prog 80 #[.pointer (some ⟨r, 0, none⟩), .int .i64 n, .string (strN q), .string (strN a)] w (KeptD w r m strict v (keepE (keptD m D) strict ⟨n, q, a⟩) (docD (keptD m D) D strict ⟨n, q, a⟩)) := by
  have HD := Lib.hid h
  have HQ := Lib.hid hq
  have HA := Lib.hid ha
  have HK := Lib.hid (rlook_any r m strict v D n q w h hq)
  have H7 := Lib.hid (fun e => look7 (K := keptD m D) (strict := strict) (n := n) (q := q) e)
  have hsq : (strN q).size = q.length := by simp [strN, ByteArray.size]
  have hsa : (strN a).size = a.length := by simp [strN, ByteArray.size]
  have HSTAY : Hid (∀ w', Only (fun _ => False) w w' → (∃ v', DwAt w' r m strict v' D ∧ ∀ k, v'.ownBlock = some k → v.ownBlock = some k ∨ w.heap.size ≤ k) ∧ Only (fun k => k = r ∨ v.ownBlock = some k) w w') := Lib.hid (fun w' ho => ⟨⟨v, HD.out.quiet ho, fun k e => .inl e⟩, ho.mono (fun _ _ f => f.elim)⟩)
  obtain ⟨E0, hE0⟩ : ∃ x, x = lookE (keptD m D) strict n q := ⟨_, rfl⟩
  have hke : keepE (keptD m D) strict ⟨n, q, a⟩ = if E0 = 7 then (if 65536 < q.length ∨ 65536 < a.length then 5 else 0) else if E0 = 0 then 8 else E0 := by rw [hE0]; rfl
  obtain ⟨E1, hE1⟩ : ∃ x, x = keepE (keptD m D) strict ⟨n, q, a⟩ := ⟨_, rfl⟩
  obtain ⟨D1, hD1⟩ : ∃ x, x = docD (keptD m D) D strict ⟨n, q, a⟩ := ⟨_, rfl⟩
  have hd1 : D1 = if E1 = 0 then D ++ [⟨n, q, a⟩] else D := by rw [hD1, hE1]; rfl
  rw [← hE0] at HK H7
  rw [← hE1] at hke ⊢
  rw [← hD1]
  unfold maxLen at hm1 hm2
  clear hq ha h hE0 hE1 hD1
  by_cases h7 : E0 = 7
  · rw [if_pos h7] at hke
    have hnn := H7.out h7
    have hql : (q.length : Int) ≤ 9223372036854775807 := by omega
    have hal : (a.length : Int) ≤ 9223372036854775807 := by omega
    by_cases hb1 : 65536 < q.length
    · rw [if_pos (.inl hb1)] at hke
      rw [if_neg (by omega)] at hd1
      subst hke hd1 h7
      have hb1' : (65536 : Int) < q.length := by omega
      clear hb1 H7 hnn
      go_enter Try.func80, Try.ntmps80
      go_wp2_with fail
      refine HK.out.mono ?_
      rintro _ w2 ⟨rfl, ho⟩
      have HS2 := Lib.hid (HSTAY.out w2 ho)
      clear ho HK HSTAY
      go_wp2_with fail
      go_ret
      exact ⟨rfl, HS2.out⟩
    · by_cases hb2 : 65536 < a.length
      · rw [if_pos (.inr hb2)] at hke
        rw [if_neg (by omega)] at hd1
        subst hke hd1 h7
        have hb1' : ¬ (65536 : Int) < q.length := by omega
        have hb2' : (65536 : Int) < a.length := by omega
        clear hb1 hb2 H7 hnn
        go_enter Try.func80, Try.ntmps80
        go_wp2_with fail
        refine HK.out.mono ?_
        rintro _ w2 ⟨rfl, ho⟩
        have HS2 := Lib.hid (HSTAY.out w2 ho)
        clear ho HK HSTAY
        go_wp2_with fail
        go_ret
        exact ⟨rfl, HS2.out⟩
      · rw [if_neg (by omega)] at hke
        rw [if_pos (by omega)] at hd1
        subst hke hd1 h7
        have hb1' : ¬ (65536 : Int) < q.length := by omega
        have hb2' : ¬ (65536 : Int) < a.length := by omega
        have HOKN : Hid (KOk ⟨n, q, a⟩) := Lib.hid ⟨HQ.out, HA.out, by show q.length ≤ 65536; omega, by show a.length ≤ 65536; omega, hnn.1, hnn.2⟩
        clear hb1 hb2 H7 hnn
        go_enter Try.func80, Try.ntmps80
        go_wp2_with fail
        refine HK.out.mono ?_
        rintro _ w2 ⟨rfl, ho⟩
        have HO2 := Lib.hid ho
        have HD2 := Lib.hid (HD.out.quiet ho)
        have c2 := HD2.out.c2
        have f2 := HD2.out.f2
        obtain ⟨i0, hi, hz0, hz1, hz2⟩ := info_parts info_one
        have HAL : Hid (∀ o, Only (fun _ => False) w2 (w2.alloc o)) := Lib.hid (fun o => (Only.refl _ _).alloc o)
        have c2a := fun o => (HAL.out o).cell' c2 (fun f => f)
        have f2a := fun o => ((HAL.out o).frozen (p := ⟨r, 2, none⟩) HD2.out.lt (fun f => f)).trans f2
        clear ho HK HSTAY
        go_wp2_with (at_builtin; refine append_mine rfl _ _ 70 rfl 136 i0 _ 3 40 Try.underlying70 hi hz0 hz1 hz2 rfl (by decide) v D.length _ rfl (HD2.out.own.only (HAL.out _) (fun _ _ f => f)) ⟨w2.heap.size, 0, none⟩ 1 1 (dvs [⟨n, q, a⟩]) rfl ?c1 ?c2 ?c3 ?c4 ?c5 ?_)
        case c1 => rfl
        case c2 => exact news_one rfl _
        case c3 => exact dvs_one _
        case c4 => unfold maxLen; omega
        case c5 => omega
        intro v3 w3 hown hgrow hkk
        have hog := Only.of_grown hgrow
        have HON : Hid (OwnD w3 v3 (D ++ [⟨n, q, a⟩])) := Lib.hid (by
          unfold OwnD
          rw [dvs_append, List.length_append]
          exact hown)
        have HKK : Hid (∀ k, v3.ownBlock = some k → v.ownBlock = some k ∨ w2.heap.size ≤ k) := Lib.hid (fun k e => (hkk k e).imp (fun x => x) (fun e => by first | omega | (simp only [size_alloc] at e; omega)))
        obtain ⟨g3, cap3, rfl, -⟩ := owns_form hown (by omega)
        have hnr : v.ownBlock ≠ some r := HD2.out.np
        have c3 := hog.cell' (c2a _) hnr
        have HR9 : Hid (∀ o, r < (w2.alloc o).heap.size) := Lib.hid (fun o => by have := HD2.out.lt; rw [size_alloc]; omega)
        have f3 := (hog.frozen (p := ⟨r, 2, none⟩) (HR9.out _) hnr).trans (f2a _)
        have HC01 : Hid (w3.cell? ⟨r, 0, none⟩ = some (.int .i64 (m : Int)) ∧ w3.cell? ⟨r, 1, none⟩ = some (.bool strict)) := Lib.hid ⟨hog.cell' ((HAL.out _).cell' HD2.out.c0 (fun f => f)) hnr, hog.cell' ((HAL.out _).cell' HD2.out.c1 (fun f => f)) hnr⟩
        have HOG : Hid (Only (fun k => k = r ∨ v.ownBlock = some k) w w3) := Lib.hid (((HO2.out.trans (HAL.out _)).mono (fun _ _ f => f.elim)).trans (hog.mono (fun k _ e => .inr e)))
        have HNR : Hid ((Value.slice (some ⟨g3, 0, none⟩) (D.length + 1) cap3).ownBlock ≠ some r) := Lib.hid (fun e => (HKK.out r e).elim hnr (fun e => by have := HD2.out.lt; omega))
        have HSS : Hid (w.heap.size ≤ w2.heap.size) := Lib.hid HO2.out.size
        have HLE : Hid (D.length + 1 ≤ 1000) := Lib.hid (by omega)
        clear hown hgrow hkk hog c2a f2a c2 f2 HAL
        go_wp2_with fail
        go_ret
        refine ⟨rfl, ⟨_, ⟨?_, ?_, cell_same c3, frozen_set.trans f3, HON.out.only (Only.set (fun x => x = r) _ r 2 _ rfl) (fun k e e2 => HNR.out (by rw [e, e2])), HNR.out, by rw [List.length_append]; exact HLE.out, HD.out.mo, fun x hx => ?_⟩, fun k e => (HKK.out k e).imp (fun x => x) (fun e => Nat.le_trans HSS.out e)⟩, HOG.out.trans (Only.set _ _ r 2 _ (.inl rfl))⟩
        · rw [cell_other (fun e => by injection e with _ e _; omega)]; exact HC01.out.1
        · rw [cell_other (fun e => by injection e with _ e _; omega)]; exact HC01.out.2
        · rcases List.mem_append.1 hx with hx | hx
          · exact HD.out.ok x hx
          · rw [List.mem_singleton] at hx; subst hx; exact HOKN.out
  · rw [if_neg h7] at hke
    by_cases h0 : E0 = 0
    · rw [if_pos h0] at hke
      rw [if_neg (by omega)] at hd1
      subst hke hd1 h0
      clear H7 h7
      go_enter Try.func80, Try.ntmps80
      go_wp2_with fail
      refine HK.out.mono ?_
      rintro _ w2 ⟨rfl, ho⟩
      have HS2 := Lib.hid (HSTAY.out w2 ho)
      clear ho HK HSTAY
      go_wp2_with fail
      go_ret
      exact ⟨rfl, HS2.out⟩
    · rw [if_neg h0] at hke
      rw [if_neg (by omega)] at hd1
      subst hke hd1
      have hb0 : (E1 == 0) = false := by simpa using h0
      have hb7 : (E1 != 7) = true := by simpa using h7
      clear H7 h7 h0
      go_enter Try.func80, Try.ntmps80
      go_wp2_with fail
      refine HK.out.mono ?_
      rintro _ w2 ⟨rfl, ho⟩
      have HS2 := Lib.hid (HSTAY.out w2 ho)
      clear ho HK HSTAY
      go_wp2_with fail
      go_ret
      exact ⟨rfl, HS2.out⟩
set_option maxRecDepth 100000 in
theorem number_any (d : AcD) (last : Int) (w : World) : Calls Try.prog 78 #[d.v, .int .i64 last] w fun e w' => (∃ n, e = .returned (.int .i64 n)) ∧ Only (fun _ => False) w w' := by
  obtain ⟨keep, by_, raw, qa, qn, qc, ql, aa, an, ac, al⟩ := d
  unfold AcD.v
  dsimp only
  obtain ⟨w1, hw1⟩ : ∃ zz, zz = w.alloc (.cells #[.bool keep, .int .i64 by_, .bool raw, .slice qa qn qc, .slice aa an ac] 74) := ⟨_, rfl⟩
  obtain ⟨g, hg⟩ : ∃ zz, zz = w.heap.size := ⟨_, rfl⟩
  have e1 : w1.cell? ⟨g, 1, none⟩ = some (.int .i64 by_) := by
    rw [hw1, hg, Go.Joins.cell_of_block (cs := #[.bool keep, .int .i64 by_, .bool raw, .slice qa qn qc, .slice aa an ac]) (t := 74) (fr := (0, 0)) (by rw [heap_alloc, if_pos rfl])]; rfl
  have e2 : w1.cell? ⟨g, 2, none⟩ = some (.bool raw) := by
    rw [hw1, hg, Go.Joins.cell_of_block (cs := #[.bool keep, .int .i64 by_, .bool raw, .slice qa qn qc, .slice aa an ac]) (t := 74) (fr := (0, 0)) (by rw [heap_alloc, if_pos rfl])]; rfl
  have HO1 : Hid (Only (fun _ => False) w w1) := Lib.hid (by rw [hw1]; exact (Only.refl _ _).alloc _)
  cases raw
  · go_enter Try.func78, Try.ntmps78
    go_upto_region 1 with fail
    simp only [← hw1, ← hg]
    clear hw1 hg
    go_wp2_with fail
    go_ret
    exact ⟨⟨_, rfl⟩, HO1.out⟩
  · go_enter Try.func78, Try.ntmps78
    go_upto_region 1 with fail
    simp only [← hw1, ← hg]
    clear hw1 hg
    go_wp2_with fail
    go_ret
    exact ⟨⟨_, rfl⟩, HO1.out⟩
theorem OwnB.store {w : World} {g n cap i x : Nat} {l : List Nat} (h : OwnB w (.slice (some ⟨g, 0, none⟩) n cap) l) (hn : n = l.length) (hx : x < 256) : OwnB (w.setCell ⟨g, i, none⟩ (.int .u8 (x : Int))) (.slice (some ⟨g, 0, none⟩) n cap) (l.set i x) := by
  subst hn
  refine ⟨?_, fun c hc => ?_, by rw [List.length_set]; exact h.2.2⟩
  · rw [List.length_set, ← bv_set]
    exact (h.1.stored i _).1
  · rcases List.mem_or_eq_of_mem_set hc with h1 | h1
    · exact h.2.1 c h1
    · rw [h1]; exact hx
theorem step_byte {ops : Array Oper} {o : Oper} {a : Act} {w : World} {K : Act → World → Prop} {Q : Exit → Act → World → Prop} {E : Prop}
    (hg : o.guard = none) (s x : Operand) (ho : o.op = Op.call { callee := Callee.builtin Builtin.append, args := #[s, x], argTypes := #[31, 31] })
    (v : Value) (xs : List Nat) (hs : a.eval s = v) (hown : OwnB w v xs) (ad : Option Addr) (m c : Nat) (ts : List Nat) (hx : a.eval x = .slice ad m c) (hr : Reads w ad m ts) (hc0 : ad = none → c = 0) (hb : xs.length + m ≤ 1000000)
    (hK : ∀ v' w', OwnB w' v' (xs ++ ts) → w.grownBy w' v.ownBlock → (∀ k, v'.ownBlock = some k → v.ownBlock = some k ∨ w.heap.size ≤ k) → K (a.put o.dst v') w') :
    if Region.wanted o (yielded ops a.tmps) = true then Oper.wp Try.prog o a w K Q else E := by
  obtain ⟨i0, hi, hz0, hz1, hz2⟩ := info_parts info_u8
  rcases ad with _ | ad
  · have hm : m = 0 := hr.2.2.2.elim id (fun ⟨b, off, e, _⟩ => by cases e)
    subst hm
    obtain rfl := hc0 rfl
    have hl : ts = [] := List.eq_nil_of_length_eq_zero hr.1
    subst hl
    refine step_none hg s x 31 ho 0 5 i0 1 Try.underlying31 hi v xs.length _ hs hown.1 hx ?_
    exact hK v w (by rw [List.append_nil]; exact hown) ⟨rfl, rfl, rfl, Nat.le_refl _, fun _ _ _ => rfl⟩ (fun k hk => .inl hk)
  · refine step_mine hg s x 31 ho 5 i0 _ 1 1 Try.underlying31 hi hz0 hz1 hz2 rfl (by decide) v xs.length _ hs hown.1 ad m c (bv ts) hx (by simp [bv, hr.1]) (news_of_reads hr) (bv_one ts) (by unfold maxLen; omega) (by omega) ?_
    intro v' w' h1 h2 h3
    refine hK v' w' ⟨?_, fun c hc => (List.mem_append.1 hc).elim (hown.2.1 c) (hr.2.2.1 c), by rw [List.length_append, hr.1]; unfold maxLen; omega⟩ h2 h3
    rw [List.length_append, hr.1, bv_append]
    exact h1
end Go.Proofs.Ytpjbgcbjelcnbaa.wnd
