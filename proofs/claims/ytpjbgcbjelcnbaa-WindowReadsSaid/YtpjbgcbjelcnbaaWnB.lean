/- Look and Keep of a window. -/
import Derived.Test.YtpjbgcbjelcnbaaWnA
import Derived.Test.YtpjbgcbjelcnbaaHeldL
import Derived.IntWalk
namespace Go.Proofs.Ytpjbgcbjelcnbaa.wnd
open Go.RowKit mem rowz
set_option linter.unusedVariables false

/-- what Look answers -/
def Looked (w : World) (E : Int) (l : List Nat) (e : Ending) (w' : World) : Prop := ∃ aa an ac, e = .returned (.tuple #[.slice aa an ac, .int .i64 E]) ∧ Reads w' aa an l ∧ Cp aa an ac ∧ (∀ y, aa = some y → w.heap.size ≤ y.block ∧ y.block < w'.heap.size ∧ w'.frozen? y = false) ∧ Only (fun _ => False) w w'
theorem Looked.none {w w' : World} (E : Int) (ho : Only (fun _ => False) w w') : Looked w E [] (.returned (.tuple #[.slice none 0 0, .int .i64 E])) w' :=
  ⟨Option.none, 0, 0, rfl, ⟨rfl, by unfold maxLen; simp, (fun c hc => by cases hc), .inl rfl⟩, ⟨Nat.le_refl _, by unfold maxLen; omega, fun _ => rfl⟩, (fun y e => by cases e), ho⟩
theorem lastK_bd (L : List Kd) (h : ∀ x ∈ L, 0 ≤ x.n ∧ x.n ≤ 4611686018427387904) : -1 ≤ lastK (L.map Kd.kp) ∧ lastK (L.map Kd.kp) ≤ 4611686018427387904 := by
  rw [lastK_map]
  by_cases h0 : L.length = 0
  · rw [if_pos h0]; omega
  · rw [if_neg h0]
    have hm : L.getD (L.length - 1) default ∈ L := by
      have h1 : L.length - 1 < L.length := by omega
      have : L.getD (L.length - 1) default = L[L.length - 1] := by simp [List.getD, h1]
      rw [this]; exact List.getElem_mem _
    have := h _ hm
    omega
set_option maxRecDepth 100000 in
set_option maxHeartbeats 4000000 in
theorem wlook_any {S : Nat → Prop} (p : Nat) (most : Int) (strict : Bool) (v : Value) (L : List Kd) (n : Int) (a : Option Addr) (m c : Nat) (q : List Nat) (w : World) (h : WnAt S w p most strict v L) (hr : Reads w a m q) :
    Calls Try.prog 28 #[.pointer (some ⟨p, 0, none⟩), .int .i64 n, .slice a m c] w (Looked w (lookE (L.map Kd.kp) strict n q) (lookA (L.map Kd.kp) strict n q)) := by
  have hnb := lastK_bd L h.nb
  have HWN := Lib.hid h
  have HR := Lib.hid hr
  have HO1 : Hid (Only (fun _ => False) w (w.alloc (.cells #[.int .i64 n] 3))) := Lib.hid ((Only.refl _ w).alloc _)
  have hx : (w.alloc (.cells #[.int .i64 n] 3)).cell? ⟨w.heap.size, 0, none⟩ = some (.int .i64 n) := by
    rw [Go.Joins.cell_of_block (cs := #[.int .i64 n]) (t := 3) (fr := (0, 0)) (by rw [heap_alloc, if_pos rfl])]; rfl
  obtain ⟨w1, hw1⟩ : ∃ x, x = w.alloc (.cells #[.int .i64 n] 3) := ⟨_, rfl⟩
  obtain ⟨g, hg⟩ : ∃ x, x = w.heap.size := ⟨_, rfl⟩
  have HG := Lib.hid hg
  rw [← hw1, ← hg] at hx
  rw [← hw1] at HO1
  clear h hr
  by_cases hn : n < 0 ∨ 4611686018427387904 < n
  · have hE : lookE (L.map Kd.kp) strict n q = 1 := by unfold lookE lookR; rw [if_pos hn]
    have hA : lookA (L.map Kd.kp) strict n q = [] := by unfold lookA lookR; rw [if_pos hn]
    rw [hE, hA]
    clear hE hA hnb
    by_cases h1 : n < 0
    · clear hn
      go_enter Try.func28, Try.ntmps28
      go_upto_region 1 with fail
      rw [← hw1, ← hg]
      clear hw1 hg
      go_wp2_with fail
      go_ret2
      exact Looked.none _ HO1.out
    · have h2 : 4611686018427387904 < n := hn.resolve_left h1
      clear hn
      go_enter Try.func28, Try.ntmps28
      go_upto_region 1 with fail
      rw [← hw1, ← hg]
      clear hw1 hg
      go_wp2_with fail
      go_ret2
      exact Looked.none _ HO1.out
  · have hn1 : ¬ n < 0 := fun q => hn (.inl q)
    have hn2 : ¬ 4611686018427387904 < n := fun q => hn (.inr q)
    have hE : lookE (L.map Kd.kp) strict n q = (lookK (L.map Kd.kp) strict n q).1 := by unfold lookE lookR; rw [if_neg hn]
    have hA : lookA (L.map Kd.kp) strict n q = (lookK (L.map Kd.kp) strict n q).2 := by unfold lookA lookR; rw [if_neg hn]
    rw [hE, hA]
    clear hE hA hn
    obtain ⟨ao, cap, hv, hcc, hrd, hab⟩ := HWN.out.own.reads
    have hll : L.length ≤ 64 := by have := HWN.out.len; have := HWN.out.mo.2; omega
    have HIX := Lib.hid (kidx_any ao L.length cap L n g w1 (by omega) (hrd.only HO1.out (fun _ _ f => f)) hx)
    have c2 := (HWN.out.quiet HO1.out).c2
    rw [hv] at c2
    rcases kIdx_find n L 0 with ⟨e1, e2⟩ | ⟨k, hk, e1, e2⟩
    · have e1 : kIdx n 0 L = -1 := e1
      rw [e1] at HIX
      have hLK : lookK (L.map Kd.kp) strict n q = if n ≤ lastK (L.map Kd.kp) then (13, []) else if strict = true ∧ n ≠ lastK (L.map Kd.kp) + 1 then (15, []) else (7, []) := by unfold lookK; rw [e2]
      rw [hLK]
      obtain ⟨Z, hZ⟩ : ∃ Z, lastK (L.map Kd.kp) = Z := ⟨_, rfl⟩
      have HZ := Lib.hid hZ
      rw [hZ] at hnb ⊢
      obtain ⟨hz1, hz2⟩ := hnb
      clear hLK e1 e2 hrd hab hv hZ
      by_cases hle : n ≤ Z
      · rw [if_pos hle]
        go_enter Try.func28, Try.ntmps28
        go_upto_region 1 with fail
        rw [← hw1, ← hg]
        clear hw1 hg
        go_wp2_with fail
        refine HIX.out.mono ?_
        rintro _ w3 ⟨rfl, ho⟩
        replace HO1 := Lib.hid (HO1.out.trans ho)
        replace hx := ho.cell' hx (fun f => f)
        clear ho HIX c2
        have HSL : Hid (∀ w', Only (fun _ => False) w3 w' → w'.cell? ⟨g, 0, none⟩ = some (.int .i64 n)) := Lib.hid (fun w' ho => ho.cell' hx (fun f => f))
        have HLA : Hid (∀ w', Only (fun _ => False) w3 w' → _) := Lib.hid (fun w' (ho : Only (fun _ => False) w3 w') => wlast_any p most _ v L w' (HWN.out.quiet (HO1.out.trans ho)))
        rw [HZ.out] at HLA
        clear hx
        go_upto_region 8 with fail
        refine wp_region_noPanic ?_
        refine wp_region_held_drew (S := (fun w' => w'.cell? ⟨g, 0, none⟩ = some (.int .i64 n))) (by kernel_rfl) (HSL.out _ (Only.refl _ _).drew) (fun hHeld => ?_)
        obtain ⟨y0, hy0⟩ : ∃ x, x = w3.drew := ⟨_, rfl⟩
        rw [← hy0] at hHeld ⊢
        have hot : Hid (Only (fun _ => False) w3 y0) := Lib.hid (by rw [hy0]; exact (Only.refl _ _).drew)
        clear hy0
        refine wpAnyH_take (i := 0) (v := ?_) rfl (by kernel_rfl) (by kernel_rfl) (by kernel_rfl) (fun _ _ _ h => h) (Or.inl ⟨by rfl, ?_⟩) (by assumption) ?_
        rotate_left 1
        · intro w' hSw
          try dsimp only at hSw
          go_simp
          try with_reducible rfl
        try simp only [List.getElem_toArray, List.getElem_cons_zero, Act.put, List.setIfInBounds_toArray, List.set_cons_zero, List.set_cons_succ]
        refine wpAnyH_take (i := 1) (v := ?_) rfl (by kernel_rfl) (by kernel_rfl) (by kernel_rfl) (fun _ _ _ h => h) (Or.inl ⟨by rfl, ?_⟩) (by assumption) ?_
        rotate_left 1
        · intro w' hSw
          try dsimp only at hSw
          go_simp
          try with_reducible rfl
        try simp only [List.getElem_toArray, List.getElem_cons_zero, List.getElem_cons_succ, Act.put, List.setIfInBounds_toArray, List.set_cons_zero, List.set_cons_succ]
        refine wpAnyH_ready (rs := [2]) (by kernel_rfl) (by simp) ?_
        refine AllReadyH.cons rfl (fun K hK => ?_) AllReadyH.nil
        try simp only [List.getElem_toArray, List.getElem_cons_zero, List.getElem_cons_succ]
        go_simp
        go_at_call 32
        with_reducible refine (HLA.out _ hot.out).mono ?_
        rintro _ W1 ⟨rfl, ho⟩
        replace hot := Lib.hid (hot.out.trans ho)
        clear ho
        try dsimp only
        refine hK.out _ _ (HSL.out _ hot.out) (fun hHeld1 => ?_)
        clear hK K
        try simp only [List.getElem_toArray, List.getElem_cons_zero, List.getElem_cons_succ, Act.put, List.setIfInBounds_toArray, List.set_cons_zero, List.set_cons_succ]
        refine wpAnyH_take (i := 3) (v := ?_) rfl (by kernel_rfl) (by kernel_rfl) (by kernel_rfl) (fun _ _ _ h => h) (Or.inl ⟨by rfl, ?_⟩) (by assumption) ?_
        rotate_left 1
        · intro w' hSw
          try dsimp only at hSw
          go_simp
          try with_reducible rfl
        try simp only [List.getElem_toArray, List.getElem_cons_zero, List.getElem_cons_succ, Act.put, List.setIfInBounds_toArray, List.set_cons_zero, List.set_cons_succ]
        refine wpAnyH_done (by kernel_rfl) ?_ _
        refine NoPanic.normal ?_
        rename World => w2
        have HO2 := Lib.hid (HO1.out.trans hot.out)
        clear hHeld hot HSL HLA
        go_wp2_with fail
        go_ret2
        exact Looked.none _ HO2.out
      · rw [if_neg hle]
        cases strict
        · have hne : ¬ (false = true ∧ n ≠ Z + 1) := fun q => by cases q.1
          rw [if_neg hne]
          clear hne
          go_enter Try.func28, Try.ntmps28
          go_upto_region 1 with fail
          rw [← hw1, ← hg]
          clear hw1 hg
          go_wp2_with fail
          refine HIX.out.mono ?_
          rintro _ w3 ⟨rfl, ho⟩
          replace HO1 := Lib.hid (HO1.out.trans ho)
          replace hx := ho.cell' hx (fun f => f)
          clear ho HIX c2
          have HSL : Hid (∀ w', Only (fun _ => False) w3 w' → w'.cell? ⟨g, 0, none⟩ = some (.int .i64 n)) := Lib.hid (fun w' ho => ho.cell' hx (fun f => f))
          have HLA : Hid (∀ w', Only (fun _ => False) w3 w' → _) := Lib.hid (fun w' (ho : Only (fun _ => False) w3 w') => wlast_any p most _ v L w' (HWN.out.quiet (HO1.out.trans ho)))
          rw [HZ.out] at HLA
          clear hx
          go_upto_region 8 with fail
          refine wp_region_noPanic ?_
          refine wp_region_held_drew (S := (fun w' => w'.cell? ⟨g, 0, none⟩ = some (.int .i64 n))) (by kernel_rfl) (HSL.out _ (Only.refl _ _).drew) (fun hHeld => ?_)
          obtain ⟨y0, hy0⟩ : ∃ x, x = w3.drew := ⟨_, rfl⟩
          rw [← hy0] at hHeld ⊢
          have hot : Hid (Only (fun _ => False) w3 y0) := Lib.hid (by rw [hy0]; exact (Only.refl _ _).drew)
          clear hy0
          refine wpAnyH_take (i := 0) (v := ?_) rfl (by kernel_rfl) (by kernel_rfl) (by kernel_rfl) (fun _ _ _ h => h) (Or.inl ⟨by rfl, ?_⟩) (by assumption) ?_
          rotate_left 1
          · intro w' hSw
            try dsimp only at hSw
            go_simp
            try with_reducible rfl
          try simp only [List.getElem_toArray, List.getElem_cons_zero, Act.put, List.setIfInBounds_toArray, List.set_cons_zero, List.set_cons_succ]
          refine wpAnyH_take (i := 1) (v := ?_) rfl (by kernel_rfl) (by kernel_rfl) (by kernel_rfl) (fun _ _ _ h => h) (Or.inl ⟨by rfl, ?_⟩) (by assumption) ?_
          rotate_left 1
          · intro w' hSw
            try dsimp only at hSw
            go_simp
            try with_reducible rfl
          try simp only [List.getElem_toArray, List.getElem_cons_zero, List.getElem_cons_succ, Act.put, List.setIfInBounds_toArray, List.set_cons_zero, List.set_cons_succ]
          refine wpAnyH_ready (rs := [2]) (by kernel_rfl) (by simp) ?_
          refine AllReadyH.cons rfl (fun K hK => ?_) AllReadyH.nil
          try simp only [List.getElem_toArray, List.getElem_cons_zero, List.getElem_cons_succ]
          go_simp
          go_at_call 32
          with_reducible refine (HLA.out _ hot.out).mono ?_
          rintro _ W1 ⟨rfl, ho⟩
          replace hot := Lib.hid (hot.out.trans ho)
          clear ho
          try dsimp only
          refine hK.out _ _ (HSL.out _ hot.out) (fun hHeld1 => ?_)
          clear hK K
          try simp only [List.getElem_toArray, List.getElem_cons_zero, List.getElem_cons_succ, Act.put, List.setIfInBounds_toArray, List.set_cons_zero, List.set_cons_succ]
          refine wpAnyH_take (i := 3) (v := ?_) rfl (by kernel_rfl) (by kernel_rfl) (by kernel_rfl) (fun _ _ _ h => h) (Or.inl ⟨by rfl, ?_⟩) (by assumption) ?_
          rotate_left 1
          · intro w' hSw
            try dsimp only at hSw
            go_simp
            try with_reducible rfl
          try simp only [List.getElem_toArray, List.getElem_cons_zero, List.getElem_cons_succ, Act.put, List.setIfInBounds_toArray, List.set_cons_zero, List.set_cons_succ]
          refine wpAnyH_done (by kernel_rfl) ?_ _
          refine NoPanic.normal ?_
          rename World => w2
          have HO2 := Lib.hid (HO1.out.trans hot.out)
          have HSM : Hid (∀ w', Only (fun _ => False) w2 w' → w'.cell? ⟨g, 0, none⟩ = some (.int .i64 n) ∧ w'.cell? ⟨p, 1, none⟩ = some (.bool false)) := Lib.hid (fun w' ho => ⟨HSL.out _ (hot.out.trans ho), (HWN.out.quiet (HO2.out.trans ho)).c1⟩)
          have HLB : Hid (∀ w', Only (fun _ => False) w2 w' → _) := Lib.hid (fun w' (ho : Only (fun _ => False) w2 w') => wlast_any p most _ v L w' (HWN.out.quiet (HO2.out.trans ho)))
          rw [HZ.out] at HLB
          clear HLA
          clear hHeld hot HSL
          go_upto_region 10 with fail
          refine wp_region_noPanic ?_
          refine wp_region_held_drew (S := (fun w' => w'.cell? ⟨g, 0, none⟩ = some (.int .i64 n) ∧ w'.cell? ⟨p, 1, none⟩ = some (.bool false))) (by kernel_rfl) (HSM.out _ (Only.refl _ _).drew) (fun hHeld => ?_)
          obtain ⟨y0, hy0⟩ : ∃ x, x = w2.drew := ⟨_, rfl⟩
          rw [← hy0] at hHeld ⊢
          have hot : Hid (Only (fun _ => False) w2 y0) := Lib.hid (by rw [hy0]; exact (Only.refl _ _).drew)
          clear hy0
          refine wpAnyH_take (i := 0) (v := ?_) rfl (by kernel_rfl) (by kernel_rfl) (by kernel_rfl) (fun _ _ _ h => h) (Or.inl ⟨by rfl, ?_⟩) (by assumption) ?_
          rotate_left 1
          · intro w' hSw
            try dsimp only at hSw
            go_simp
            try with_reducible rfl
          try simp only [List.getElem_toArray, List.getElem_cons_zero, Act.put, List.setIfInBounds_toArray, List.set_cons_zero, List.set_cons_succ]
          refine wpAnyH_take (i := 1) (v := ?_) rfl (by kernel_rfl) (by kernel_rfl) (by kernel_rfl) (fun _ _ _ h => h) (Or.inl ⟨by rfl, ?_⟩) (by assumption) ?_
          rotate_left 1
          · intro w' hSw
            try dsimp only at hSw
            go_simp
            try with_reducible rfl
          try simp only [List.getElem_toArray, List.getElem_cons_zero, List.getElem_cons_succ, Act.put, List.setIfInBounds_toArray, List.set_cons_zero, List.set_cons_succ]
          refine wpAnyH_take (i := 2) (v := ?_) rfl (by kernel_rfl) (by kernel_rfl) (by kernel_rfl) (fun _ _ _ h => h) (Or.inl ⟨by rfl, ?_⟩) (by assumption) ?_
          rotate_left 1
          · intro w' hSw
            try dsimp only at hSw
            go_simp
            try with_reducible rfl
          try simp only [List.getElem_toArray, List.getElem_cons_zero, List.getElem_cons_succ, Act.put, List.setIfInBounds_toArray, List.set_cons_zero, List.set_cons_succ]
          refine wpAnyH_take (i := 3) (v := ?_) rfl (by kernel_rfl) (by kernel_rfl) (by kernel_rfl) (fun _ _ _ h => h) (Or.inl ⟨by rfl, ?_⟩) (by assumption) ?_
          rotate_left 1
          · intro w' hSw
            try dsimp only at hSw
            go_simp
            try with_reducible rfl
          try simp only [List.getElem_toArray, List.getElem_cons_zero, List.getElem_cons_succ, Act.put, List.setIfInBounds_toArray, List.set_cons_zero, List.set_cons_succ]
          refine wpAnyH_take (i := 4) (v := ?_) rfl (by kernel_rfl) (by kernel_rfl) (by kernel_rfl) (fun _ _ _ h => h) (Or.inl ⟨by rfl, ?_⟩) (by assumption) ?_
          rotate_left 1
          · intro w' hSw
            try dsimp only at hSw
            go_simp
            try with_reducible rfl
          try simp only [List.getElem_toArray, List.getElem_cons_zero, List.getElem_cons_succ, Act.put, List.setIfInBounds_toArray, List.set_cons_zero, List.set_cons_succ]
          refine wpAnyH_take (i := 5) (v := undef) rfl (by kernel_rfl) (by kernel_rfl) (by kernel_rfl) (fun _ _ _ h => h) (Or.inr ⟨rfl, rfl⟩) (by assumption) ?_
          try simp only [List.getElem_toArray, List.getElem_cons_zero, List.getElem_cons_succ, Act.put, List.setIfInBounds_toArray, List.set_cons_zero, List.set_cons_succ]
          refine wpAnyH_take (i := 6) (v := undef) rfl (by kernel_rfl) (by kernel_rfl) (by kernel_rfl) (fun _ _ _ h => h) (Or.inr ⟨rfl, rfl⟩) (by assumption) ?_
          try simp only [List.getElem_toArray, List.getElem_cons_zero, List.getElem_cons_succ, Act.put, List.setIfInBounds_toArray, List.set_cons_zero, List.set_cons_succ]
          refine wpAnyH_take (i := 7) (v := undef) rfl (by kernel_rfl) (by kernel_rfl) (by kernel_rfl) (fun _ _ _ h => h) (Or.inr ⟨rfl, rfl⟩) (by assumption) ?_
          try simp only [List.getElem_toArray, List.getElem_cons_zero, List.getElem_cons_succ, Act.put, List.setIfInBounds_toArray, List.set_cons_zero, List.set_cons_succ]
          refine wpAnyH_take (i := 8) (v := undef) rfl (by kernel_rfl) (by kernel_rfl) (by kernel_rfl) (fun _ _ _ h => h) (Or.inr ⟨rfl, rfl⟩) (by assumption) ?_
          try simp only [List.getElem_toArray, List.getElem_cons_zero, List.getElem_cons_succ, Act.put, List.setIfInBounds_toArray, List.set_cons_zero, List.set_cons_succ]
          refine wpAnyH_take (i := 9) (v := undef) rfl (by kernel_rfl) (by kernel_rfl) (by kernel_rfl) (fun _ _ _ h => h) (Or.inr ⟨rfl, rfl⟩) (by assumption) ?_
          try simp only [List.getElem_toArray, List.getElem_cons_zero, List.getElem_cons_succ, Act.put, List.setIfInBounds_toArray, List.set_cons_zero, List.set_cons_succ]
          refine wpAnyH_take (i := 10) (v := ?_) rfl (by kernel_rfl) (by kernel_rfl) (by kernel_rfl) (fun _ _ _ h => h) (Or.inl ⟨by rfl, ?_⟩) (by assumption) ?_
          rotate_left 1
          · intro w' hSw
            try dsimp only at hSw
            go_simp
            try with_reducible rfl
          try simp only [List.getElem_toArray, List.getElem_cons_zero, List.getElem_cons_succ, Act.put, List.setIfInBounds_toArray, List.set_cons_zero, List.set_cons_succ]
          refine wpAnyH_done (by kernel_rfl) ?_ _
          refine NoPanic.normal ?_
          rename World => w4
          have HO4 := Lib.hid (HO2.out.trans hot.out)
          clear hHeld hot HSM HLB
          go_wp2_with fail
          go_ret2
          exact Looked.none _ HO4.out
        · by_cases hn9 : n = Z + 1
          · have hne : ¬ (true = true ∧ n ≠ Z + 1) := fun q => q.2 hn9
            rw [if_neg hne]
            have q1 : IntKind.i64.wrap (Z + 1) = Z + 1 := by rw [IntKind.wrap_i64]; omega
            have hbb : (n != Z + 1) = false := by simpa using hn9
            clear hne hn9 hz1 hz2
            go_enter Try.func28, Try.ntmps28
            go_upto_region 1 with fail
            rw [← hw1, ← hg]
            clear hw1 hg
            go_wp2_with fail
            refine HIX.out.mono ?_
            rintro _ w3 ⟨rfl, ho⟩
            replace HO1 := Lib.hid (HO1.out.trans ho)
            replace hx := ho.cell' hx (fun f => f)
            clear ho HIX c2
            have HSL : Hid (∀ w', Only (fun _ => False) w3 w' → w'.cell? ⟨g, 0, none⟩ = some (.int .i64 n)) := Lib.hid (fun w' ho => ho.cell' hx (fun f => f))
            have HLA : Hid (∀ w', Only (fun _ => False) w3 w' → _) := Lib.hid (fun w' (ho : Only (fun _ => False) w3 w') => wlast_any p most _ v L w' (HWN.out.quiet (HO1.out.trans ho)))
            rw [HZ.out] at HLA
            clear hx
            go_upto_region 8 with fail
            refine wp_region_noPanic ?_
            refine wp_region_held_drew (S := (fun w' => w'.cell? ⟨g, 0, none⟩ = some (.int .i64 n))) (by kernel_rfl) (HSL.out _ (Only.refl _ _).drew) (fun hHeld => ?_)
            obtain ⟨y0, hy0⟩ : ∃ x, x = w3.drew := ⟨_, rfl⟩
            rw [← hy0] at hHeld ⊢
            have hot : Hid (Only (fun _ => False) w3 y0) := Lib.hid (by rw [hy0]; exact (Only.refl _ _).drew)
            clear hy0
            refine wpAnyH_take (i := 0) (v := ?_) rfl (by kernel_rfl) (by kernel_rfl) (by kernel_rfl) (fun _ _ _ h => h) (Or.inl ⟨by rfl, ?_⟩) (by assumption) ?_
            rotate_left 1
            · intro w' hSw
              try dsimp only at hSw
              go_simp
              try with_reducible rfl
            try simp only [List.getElem_toArray, List.getElem_cons_zero, Act.put, List.setIfInBounds_toArray, List.set_cons_zero, List.set_cons_succ]
            refine wpAnyH_take (i := 1) (v := ?_) rfl (by kernel_rfl) (by kernel_rfl) (by kernel_rfl) (fun _ _ _ h => h) (Or.inl ⟨by rfl, ?_⟩) (by assumption) ?_
            rotate_left 1
            · intro w' hSw
              try dsimp only at hSw
              go_simp
              try with_reducible rfl
            try simp only [List.getElem_toArray, List.getElem_cons_zero, List.getElem_cons_succ, Act.put, List.setIfInBounds_toArray, List.set_cons_zero, List.set_cons_succ]
            refine wpAnyH_ready (rs := [2]) (by kernel_rfl) (by simp) ?_
            refine AllReadyH.cons rfl (fun K hK => ?_) AllReadyH.nil
            try simp only [List.getElem_toArray, List.getElem_cons_zero, List.getElem_cons_succ]
            go_simp
            go_at_call 32
            with_reducible refine (HLA.out _ hot.out).mono ?_
            rintro _ W1 ⟨rfl, ho⟩
            replace hot := Lib.hid (hot.out.trans ho)
            clear ho
            try dsimp only
            refine hK.out _ _ (HSL.out _ hot.out) (fun hHeld1 => ?_)
            clear hK K
            try simp only [List.getElem_toArray, List.getElem_cons_zero, List.getElem_cons_succ, Act.put, List.setIfInBounds_toArray, List.set_cons_zero, List.set_cons_succ]
            refine wpAnyH_take (i := 3) (v := ?_) rfl (by kernel_rfl) (by kernel_rfl) (by kernel_rfl) (fun _ _ _ h => h) (Or.inl ⟨by rfl, ?_⟩) (by assumption) ?_
            rotate_left 1
            · intro w' hSw
              try dsimp only at hSw
              go_simp
              try with_reducible rfl
            try simp only [List.getElem_toArray, List.getElem_cons_zero, List.getElem_cons_succ, Act.put, List.setIfInBounds_toArray, List.set_cons_zero, List.set_cons_succ]
            refine wpAnyH_done (by kernel_rfl) ?_ _
            refine NoPanic.normal ?_
            rename World => w2
            have HO2 := Lib.hid (HO1.out.trans hot.out)
            have HSM : Hid (∀ w', Only (fun _ => False) w2 w' → w'.cell? ⟨g, 0, none⟩ = some (.int .i64 n) ∧ w'.cell? ⟨p, 1, none⟩ = some (.bool true)) := Lib.hid (fun w' ho => ⟨HSL.out _ (hot.out.trans ho), (HWN.out.quiet (HO2.out.trans ho)).c1⟩)
            have HLB : Hid (∀ w', Only (fun _ => False) w2 w' → _) := Lib.hid (fun w' (ho : Only (fun _ => False) w2 w') => wlast_any p most _ v L w' (HWN.out.quiet (HO2.out.trans ho)))
            rw [HZ.out] at HLB
            clear HLA
            clear hHeld hot HSL
            go_upto_region 10 with fail
            refine wp_region_noPanic ?_
            refine wp_region_held_drew (S := (fun w' => w'.cell? ⟨g, 0, none⟩ = some (.int .i64 n) ∧ w'.cell? ⟨p, 1, none⟩ = some (.bool true))) (by kernel_rfl) (HSM.out _ (Only.refl _ _).drew) (fun hHeld => ?_)
            obtain ⟨y0, hy0⟩ : ∃ x, x = w2.drew := ⟨_, rfl⟩
            rw [← hy0] at hHeld ⊢
            have hot : Hid (Only (fun _ => False) w2 y0) := Lib.hid (by rw [hy0]; exact (Only.refl _ _).drew)
            clear hy0
            refine wpAnyH_take (i := 0) (v := ?_) rfl (by kernel_rfl) (by kernel_rfl) (by kernel_rfl) (fun _ _ _ h => h) (Or.inl ⟨by rfl, ?_⟩) (by assumption) ?_
            rotate_left 1
            · intro w' hSw
              try dsimp only at hSw
              go_simp
              try with_reducible rfl
            try simp only [List.getElem_toArray, List.getElem_cons_zero, Act.put, List.setIfInBounds_toArray, List.set_cons_zero, List.set_cons_succ]
            refine wpAnyH_take (i := 1) (v := ?_) rfl (by kernel_rfl) (by kernel_rfl) (by kernel_rfl) (fun _ _ _ h => h) (Or.inl ⟨by rfl, ?_⟩) (by assumption) ?_
            rotate_left 1
            · intro w' hSw
              try dsimp only at hSw
              go_simp
              try with_reducible rfl
            try simp only [List.getElem_toArray, List.getElem_cons_zero, List.getElem_cons_succ, Act.put, List.setIfInBounds_toArray, List.set_cons_zero, List.set_cons_succ]
            refine wpAnyH_take (i := 2) (v := ?_) rfl (by kernel_rfl) (by kernel_rfl) (by kernel_rfl) (fun _ _ _ h => h) (Or.inl ⟨by rfl, ?_⟩) (by assumption) ?_
            rotate_left 1
            · intro w' hSw
              try dsimp only at hSw
              go_simp
              try with_reducible rfl
            try simp only [List.getElem_toArray, List.getElem_cons_zero, List.getElem_cons_succ, Act.put, List.setIfInBounds_toArray, List.set_cons_zero, List.set_cons_succ]
            refine wpAnyH_take (i := 3) (v := ?_) rfl (by kernel_rfl) (by kernel_rfl) (by kernel_rfl) (fun _ _ _ h => h) (Or.inl ⟨by rfl, ?_⟩) (by assumption) ?_
            rotate_left 1
            · intro w' hSw
              try dsimp only at hSw
              go_simp
              try with_reducible rfl
            try simp only [List.getElem_toArray, List.getElem_cons_zero, List.getElem_cons_succ, Act.put, List.setIfInBounds_toArray, List.set_cons_zero, List.set_cons_succ]
            refine wpAnyH_take (i := 4) (v := ?_) rfl (by kernel_rfl) (by kernel_rfl) (by kernel_rfl) (fun _ _ _ h => h) (Or.inl ⟨by rfl, ?_⟩) (by assumption) ?_
            rotate_left 1
            · intro w' hSw
              try dsimp only at hSw
              go_simp
              try with_reducible rfl
            try simp only [List.getElem_toArray, List.getElem_cons_zero, List.getElem_cons_succ, Act.put, List.setIfInBounds_toArray, List.set_cons_zero, List.set_cons_succ]
            refine wpAnyH_take (i := 5) (v := ?_) rfl (by kernel_rfl) (by kernel_rfl) (by kernel_rfl) (fun _ _ _ h => h) (Or.inl ⟨by rfl, ?_⟩) (by assumption) ?_
            rotate_left 1
            · intro w' hSw
              try dsimp only at hSw
              go_simp
              try with_reducible rfl
            try simp only [List.getElem_toArray, List.getElem_cons_zero, List.getElem_cons_succ, Act.put, List.setIfInBounds_toArray, List.set_cons_zero, List.set_cons_succ]
            refine wpAnyH_take (i := 6) (v := ?_) rfl (by kernel_rfl) (by kernel_rfl) (by kernel_rfl) (fun _ _ _ h => h) (Or.inl ⟨by rfl, ?_⟩) (by assumption) ?_
            rotate_left 1
            · intro w' hSw
              try dsimp only at hSw
              go_simp
              try with_reducible rfl
            try simp only [List.getElem_toArray, List.getElem_cons_zero, List.getElem_cons_succ, Act.put, List.setIfInBounds_toArray, List.set_cons_zero, List.set_cons_succ]
            refine wpAnyH_ready (rs := [7]) (by kernel_rfl) (by simp) ?_
            refine AllReadyH.cons rfl (fun K hK => ?_) AllReadyH.nil
            try simp only [List.getElem_toArray, List.getElem_cons_zero, List.getElem_cons_succ]
            go_simp
            go_at_call 32
            with_reducible refine (HLB.out _ hot.out).mono ?_
            rintro _ W1 ⟨rfl, ho⟩
            replace hot := Lib.hid (hot.out.trans ho)
            clear ho
            try dsimp only
            refine hK.out _ _ (HSM.out _ hot.out) (fun hHeld1 => ?_)
            clear hK K
            try simp only [List.getElem_toArray, List.getElem_cons_zero, List.getElem_cons_succ, Act.put, List.setIfInBounds_toArray, List.set_cons_zero, List.set_cons_succ]
            refine wpAnyH_take (i := 8) (v := ?_) rfl (by kernel_rfl) (by kernel_rfl) (by kernel_rfl) (fun _ _ _ h => h) (Or.inl ⟨by rfl, ?_⟩) (by assumption) ?_
            rotate_left 1
            · intro w' hSw
              try dsimp only at hSw
              go_simp
              try with_reducible rfl
            try simp only [List.getElem_toArray, List.getElem_cons_zero, List.getElem_cons_succ, Act.put, List.setIfInBounds_toArray, List.set_cons_zero, List.set_cons_succ]
            refine wpAnyH_take (i := 9) (v := ?_) rfl (by kernel_rfl) (by kernel_rfl) (by kernel_rfl) (fun _ _ _ h => h) (Or.inl ⟨by rfl, ?_⟩) (by assumption) ?_
            rotate_left 1
            · intro w' hSw
              try dsimp only at hSw
              go_simp
              try with_reducible rfl
            try simp only [List.getElem_toArray, List.getElem_cons_zero, List.getElem_cons_succ, Act.put, List.setIfInBounds_toArray, List.set_cons_zero, List.set_cons_succ]
            refine wpAnyH_take (i := 10) (v := ?_) rfl (by kernel_rfl) (by kernel_rfl) (by kernel_rfl) (fun _ _ _ h => h) (Or.inl ⟨by rfl, ?_⟩) (by assumption) ?_
            rotate_left 1
            · intro w' hSw
              try dsimp only at hSw
              go_simp
              try with_reducible rfl
            try simp only [List.getElem_toArray, List.getElem_cons_zero, List.getElem_cons_succ, Act.put, List.setIfInBounds_toArray, List.set_cons_zero, List.set_cons_succ]
            refine wpAnyH_done (by kernel_rfl) ?_ _
            refine NoPanic.normal ?_
            rename World => w4
            have HO4 := Lib.hid (HO2.out.trans hot.out)
            clear hHeld hot HSM HLB
            go_wp2_with fail
            go_ret2
            exact Looked.none _ HO4.out
          · have hne : (true = true ∧ n ≠ Z + 1) := ⟨rfl, hn9⟩
            rw [if_pos hne]
            have q1 : IntKind.i64.wrap (Z + 1) = Z + 1 := by rw [IntKind.wrap_i64]; omega
            have hbb : (n != Z + 1) = true := by simpa using hn9
            clear hne hn9 hz1 hz2
            go_enter Try.func28, Try.ntmps28
            go_upto_region 1 with fail
            rw [← hw1, ← hg]
            clear hw1 hg
            go_wp2_with fail
            refine HIX.out.mono ?_
            rintro _ w3 ⟨rfl, ho⟩
            replace HO1 := Lib.hid (HO1.out.trans ho)
            replace hx := ho.cell' hx (fun f => f)
            clear ho HIX c2
            have HSL : Hid (∀ w', Only (fun _ => False) w3 w' → w'.cell? ⟨g, 0, none⟩ = some (.int .i64 n)) := Lib.hid (fun w' ho => ho.cell' hx (fun f => f))
            have HLA : Hid (∀ w', Only (fun _ => False) w3 w' → _) := Lib.hid (fun w' (ho : Only (fun _ => False) w3 w') => wlast_any p most _ v L w' (HWN.out.quiet (HO1.out.trans ho)))
            rw [HZ.out] at HLA
            clear hx
            go_upto_region 8 with fail
            refine wp_region_noPanic ?_
            refine wp_region_held_drew (S := (fun w' => w'.cell? ⟨g, 0, none⟩ = some (.int .i64 n))) (by kernel_rfl) (HSL.out _ (Only.refl _ _).drew) (fun hHeld => ?_)
            obtain ⟨y0, hy0⟩ : ∃ x, x = w3.drew := ⟨_, rfl⟩
            rw [← hy0] at hHeld ⊢
            have hot : Hid (Only (fun _ => False) w3 y0) := Lib.hid (by rw [hy0]; exact (Only.refl _ _).drew)
            clear hy0
            refine wpAnyH_take (i := 0) (v := ?_) rfl (by kernel_rfl) (by kernel_rfl) (by kernel_rfl) (fun _ _ _ h => h) (Or.inl ⟨by rfl, ?_⟩) (by assumption) ?_
            rotate_left 1
            · intro w' hSw
              try dsimp only at hSw
              go_simp
              try with_reducible rfl
            try simp only [List.getElem_toArray, List.getElem_cons_zero, Act.put, List.setIfInBounds_toArray, List.set_cons_zero, List.set_cons_succ]
            refine wpAnyH_take (i := 1) (v := ?_) rfl (by kernel_rfl) (by kernel_rfl) (by kernel_rfl) (fun _ _ _ h => h) (Or.inl ⟨by rfl, ?_⟩) (by assumption) ?_
            rotate_left 1
            · intro w' hSw
              try dsimp only at hSw
              go_simp
              try with_reducible rfl
            try simp only [List.getElem_toArray, List.getElem_cons_zero, List.getElem_cons_succ, Act.put, List.setIfInBounds_toArray, List.set_cons_zero, List.set_cons_succ]
            refine wpAnyH_ready (rs := [2]) (by kernel_rfl) (by simp) ?_
            refine AllReadyH.cons rfl (fun K hK => ?_) AllReadyH.nil
            try simp only [List.getElem_toArray, List.getElem_cons_zero, List.getElem_cons_succ]
            go_simp
            go_at_call 32
            with_reducible refine (HLA.out _ hot.out).mono ?_
            rintro _ W1 ⟨rfl, ho⟩
            replace hot := Lib.hid (hot.out.trans ho)
            clear ho
            try dsimp only
            refine hK.out _ _ (HSL.out _ hot.out) (fun hHeld1 => ?_)
            clear hK K
            try simp only [List.getElem_toArray, List.getElem_cons_zero, List.getElem_cons_succ, Act.put, List.setIfInBounds_toArray, List.set_cons_zero, List.set_cons_succ]
            refine wpAnyH_take (i := 3) (v := ?_) rfl (by kernel_rfl) (by kernel_rfl) (by kernel_rfl) (fun _ _ _ h => h) (Or.inl ⟨by rfl, ?_⟩) (by assumption) ?_
            rotate_left 1
            · intro w' hSw
              try dsimp only at hSw
              go_simp
              try with_reducible rfl
            try simp only [List.getElem_toArray, List.getElem_cons_zero, List.getElem_cons_succ, Act.put, List.setIfInBounds_toArray, List.set_cons_zero, List.set_cons_succ]
            refine wpAnyH_done (by kernel_rfl) ?_ _
            refine NoPanic.normal ?_
            rename World => w2
            have HO2 := Lib.hid (HO1.out.trans hot.out)
            have HSM : Hid (∀ w', Only (fun _ => False) w2 w' → w'.cell? ⟨g, 0, none⟩ = some (.int .i64 n) ∧ w'.cell? ⟨p, 1, none⟩ = some (.bool true)) := Lib.hid (fun w' ho => ⟨HSL.out _ (hot.out.trans ho), (HWN.out.quiet (HO2.out.trans ho)).c1⟩)
            have HLB : Hid (∀ w', Only (fun _ => False) w2 w' → _) := Lib.hid (fun w' (ho : Only (fun _ => False) w2 w') => wlast_any p most _ v L w' (HWN.out.quiet (HO2.out.trans ho)))
            rw [HZ.out] at HLB
            clear HLA
            clear hHeld hot HSL
            go_upto_region 10 with fail
            refine wp_region_noPanic ?_
            refine wp_region_held_drew (S := (fun w' => w'.cell? ⟨g, 0, none⟩ = some (.int .i64 n) ∧ w'.cell? ⟨p, 1, none⟩ = some (.bool true))) (by kernel_rfl) (HSM.out _ (Only.refl _ _).drew) (fun hHeld => ?_)
            obtain ⟨y0, hy0⟩ : ∃ x, x = w2.drew := ⟨_, rfl⟩
            rw [← hy0] at hHeld ⊢
            have hot : Hid (Only (fun _ => False) w2 y0) := Lib.hid (by rw [hy0]; exact (Only.refl _ _).drew)
            clear hy0
            refine wpAnyH_take (i := 0) (v := ?_) rfl (by kernel_rfl) (by kernel_rfl) (by kernel_rfl) (fun _ _ _ h => h) (Or.inl ⟨by rfl, ?_⟩) (by assumption) ?_
            rotate_left 1
            · intro w' hSw
              try dsimp only at hSw
              go_simp
              try with_reducible rfl
            try simp only [List.getElem_toArray, List.getElem_cons_zero, Act.put, List.setIfInBounds_toArray, List.set_cons_zero, List.set_cons_succ]
            refine wpAnyH_take (i := 1) (v := ?_) rfl (by kernel_rfl) (by kernel_rfl) (by kernel_rfl) (fun _ _ _ h => h) (Or.inl ⟨by rfl, ?_⟩) (by assumption) ?_
            rotate_left 1
            · intro w' hSw
              try dsimp only at hSw
              go_simp
              try with_reducible rfl
            try simp only [List.getElem_toArray, List.getElem_cons_zero, List.getElem_cons_succ, Act.put, List.setIfInBounds_toArray, List.set_cons_zero, List.set_cons_succ]
            refine wpAnyH_take (i := 2) (v := ?_) rfl (by kernel_rfl) (by kernel_rfl) (by kernel_rfl) (fun _ _ _ h => h) (Or.inl ⟨by rfl, ?_⟩) (by assumption) ?_
            rotate_left 1
            · intro w' hSw
              try dsimp only at hSw
              go_simp
              try with_reducible rfl
            try simp only [List.getElem_toArray, List.getElem_cons_zero, List.getElem_cons_succ, Act.put, List.setIfInBounds_toArray, List.set_cons_zero, List.set_cons_succ]
            refine wpAnyH_take (i := 3) (v := ?_) rfl (by kernel_rfl) (by kernel_rfl) (by kernel_rfl) (fun _ _ _ h => h) (Or.inl ⟨by rfl, ?_⟩) (by assumption) ?_
            rotate_left 1
            · intro w' hSw
              try dsimp only at hSw
              go_simp
              try with_reducible rfl
            try simp only [List.getElem_toArray, List.getElem_cons_zero, List.getElem_cons_succ, Act.put, List.setIfInBounds_toArray, List.set_cons_zero, List.set_cons_succ]
            refine wpAnyH_take (i := 4) (v := ?_) rfl (by kernel_rfl) (by kernel_rfl) (by kernel_rfl) (fun _ _ _ h => h) (Or.inl ⟨by rfl, ?_⟩) (by assumption) ?_
            rotate_left 1
            · intro w' hSw
              try dsimp only at hSw
              go_simp
              try with_reducible rfl
            try simp only [List.getElem_toArray, List.getElem_cons_zero, List.getElem_cons_succ, Act.put, List.setIfInBounds_toArray, List.set_cons_zero, List.set_cons_succ]
            refine wpAnyH_take (i := 5) (v := ?_) rfl (by kernel_rfl) (by kernel_rfl) (by kernel_rfl) (fun _ _ _ h => h) (Or.inl ⟨by rfl, ?_⟩) (by assumption) ?_
            rotate_left 1
            · intro w' hSw
              try dsimp only at hSw
              go_simp
              try with_reducible rfl
            try simp only [List.getElem_toArray, List.getElem_cons_zero, List.getElem_cons_succ, Act.put, List.setIfInBounds_toArray, List.set_cons_zero, List.set_cons_succ]
            refine wpAnyH_take (i := 6) (v := ?_) rfl (by kernel_rfl) (by kernel_rfl) (by kernel_rfl) (fun _ _ _ h => h) (Or.inl ⟨by rfl, ?_⟩) (by assumption) ?_
            rotate_left 1
            · intro w' hSw
              try dsimp only at hSw
              go_simp
              try with_reducible rfl
            try simp only [List.getElem_toArray, List.getElem_cons_zero, List.getElem_cons_succ, Act.put, List.setIfInBounds_toArray, List.set_cons_zero, List.set_cons_succ]
            refine wpAnyH_ready (rs := [7]) (by kernel_rfl) (by simp) ?_
            refine AllReadyH.cons rfl (fun K hK => ?_) AllReadyH.nil
            try simp only [List.getElem_toArray, List.getElem_cons_zero, List.getElem_cons_succ]
            go_simp
            go_at_call 32
            with_reducible refine (HLB.out _ hot.out).mono ?_
            rintro _ W1 ⟨rfl, ho⟩
            replace hot := Lib.hid (hot.out.trans ho)
            clear ho
            try dsimp only
            refine hK.out _ _ (HSM.out _ hot.out) (fun hHeld1 => ?_)
            clear hK K
            try simp only [List.getElem_toArray, List.getElem_cons_zero, List.getElem_cons_succ, Act.put, List.setIfInBounds_toArray, List.set_cons_zero, List.set_cons_succ]
            refine wpAnyH_take (i := 8) (v := ?_) rfl (by kernel_rfl) (by kernel_rfl) (by kernel_rfl) (fun _ _ _ h => h) (Or.inl ⟨by rfl, ?_⟩) (by assumption) ?_
            rotate_left 1
            · intro w' hSw
              try dsimp only at hSw
              go_simp
              try with_reducible rfl
            try simp only [List.getElem_toArray, List.getElem_cons_zero, List.getElem_cons_succ, Act.put, List.setIfInBounds_toArray, List.set_cons_zero, List.set_cons_succ]
            refine wpAnyH_take (i := 9) (v := ?_) rfl (by kernel_rfl) (by kernel_rfl) (by kernel_rfl) (fun _ _ _ h => h) (Or.inl ⟨by rfl, ?_⟩) (by assumption) ?_
            rotate_left 1
            · intro w' hSw
              try dsimp only at hSw
              go_simp
              try with_reducible rfl
            try simp only [List.getElem_toArray, List.getElem_cons_zero, List.getElem_cons_succ, Act.put, List.setIfInBounds_toArray, List.set_cons_zero, List.set_cons_succ]
            refine wpAnyH_take (i := 10) (v := ?_) rfl (by kernel_rfl) (by kernel_rfl) (by kernel_rfl) (fun _ _ _ h => h) (Or.inl ⟨by rfl, ?_⟩) (by assumption) ?_
            rotate_left 1
            · intro w' hSw
              try dsimp only at hSw
              go_simp
              try with_reducible rfl
            try simp only [List.getElem_toArray, List.getElem_cons_zero, List.getElem_cons_succ, Act.put, List.setIfInBounds_toArray, List.set_cons_zero, List.set_cons_succ]
            refine wpAnyH_done (by kernel_rfl) ?_ _
            refine NoPanic.normal ?_
            rename World => w4
            have HO4 := Lib.hid (HO2.out.trans hot.out)
            clear hHeld hot HSM HLB
            go_wp2_with fail
            go_ret2
            exact Looked.none _ HO4.out
    · rw [Nat.zero_add] at e1
      have e1 : kIdx n 0 L = (k : Int) := e1
      rw [e1] at HIX
      have hLK : lookK (L.map Kd.kp) strict n q = if (L.getD k default).q = q then (0, (L.getD k default).a) else (14, []) := by unfold lookK; rw [e2]; rfl
      rw [hLK]
      have hmem : L.getD k default ∈ L := by
        have : L.getD k default = L[k] := by simp [List.getD, hk]
        rw [this]; exact List.getElem_mem _
      have hkd := HWN.out.kd _ hmem
      obtain ⟨gr, rfl, hcell⟩ := hrd.2.resolve_left (by omega)
      obtain ⟨-, d1, d2⟩ := hcell k hk
      replace d1 := HO1.out.cell' d1 (fun f => f)
      replace d2 := HO1.out.cell' d2 (fun f => f)
      generalize L.getD k default = x at *
      obtain ⟨xn, xqa, xqn, xqc, xq, xaa, xan, xac, xa⟩ := x
      obtain ⟨⟨s1, s2, s3, s4⟩, ⟨u1, u2, u3, u4⟩⟩ := hkd
      dsimp only at d1 d2 s1 s2 s3 s4 u1 u2 u3 u4 ⊢
      have HS1 := Lib.hid s1
      have HU1 := Lib.hid u1
      have hk0 : (0 : Int) ≤ k := by omega
      have hkL : (k : Int) < L.length := by omega
      have hk64 : (k : Int) ≤ 64 := by omega
      clear hLK e1 e2 hrd hab hv hcell hmem s1 u1 s4 u4 hnb
      by_cases hq : xq = q
      · rw [if_pos hq]
        have HDQ := Lib.hid (decide_eq_true hq)
        clear hq
        go_enter Try.func28, Try.ntmps28
        go_upto_region 1 with fail
        rw [← hw1, ← hg]
        clear hw1 hg
        go_wp2_with fail
        refine HIX.out.mono ?_
        rintro _ w3 ⟨rfl, ho⟩
        replace HO1 := Lib.hid (HO1.out.trans ho)
        replace d1 := ho.cell' d1 (fun f => f)
        replace d2 := ho.cell' d2 (fun f => f)
        replace c2 := ho.cell' c2 (fun f => f)
        clear ho HIX hx
        have HEQ := Lib.hid (equal_any xqa a xqn m xqc c xq q w3 (HS1.out.only HO1.out (fun _ _ f => f)) (HR.out.only HO1.out (fun _ _ f => f)))
        rw [HDQ.out] at HEQ
        have HCL := Lib.hid (clone_any xaa xan xac xa w3 (HU1.out.only HO1.out (fun _ _ f => f)) u3)
        go_wp2_with fail
        refine HEQ.out.mono ?_
        rintro _ _ ⟨rfl, rfl⟩
        go_wp2_with fail
        refine HCL.out.mono ?_
        rintro _ w4 ⟨ra, rc, rfl, hr4, hc4, hb4, ho⟩
        have HF : Hid (Looked w 0 xa (.returned (.tuple #[.slice ra xan rc, .int .i64 0])) w4) := Lib.hid ⟨ra, xan, rc, rfl, hr4, hc4, fun y e => by obtain ⟨z1, z2⟩ := hb4 y e; exact ⟨by have := HO1.out.size; omega, z2⟩, HO1.out.trans ho⟩
        clear hr4 hc4 hb4 ho
        go_wp2_with fail
        go_ret2
        exact HF.out
      · rw [if_neg hq]
        have HDQ := Lib.hid (decide_eq_false hq)
        clear hq
        go_enter Try.func28, Try.ntmps28
        go_upto_region 1 with fail
        rw [← hw1, ← hg]
        clear hw1 hg
        go_wp2_with fail
        refine HIX.out.mono ?_
        rintro _ w3 ⟨rfl, ho⟩
        replace HO1 := Lib.hid (HO1.out.trans ho)
        replace d1 := ho.cell' d1 (fun f => f)
        replace d2 := ho.cell' d2 (fun f => f)
        replace c2 := ho.cell' c2 (fun f => f)
        clear ho HIX hx
        have HEQ := Lib.hid (equal_any xqa a xqn m xqc c xq q w3 (HS1.out.only HO1.out (fun _ _ f => f)) (HR.out.only HO1.out (fun _ _ f => f)))
        rw [HDQ.out] at HEQ
        go_wp2_with fail
        refine HEQ.out.mono ?_
        rintro _ _ ⟨rfl, rfl⟩
        go_wp2_with fail
        go_ret2
        exact Looked.none _ HO1.out
end Go.Proofs.Ytpjbgcbjelcnbaa.wnd
