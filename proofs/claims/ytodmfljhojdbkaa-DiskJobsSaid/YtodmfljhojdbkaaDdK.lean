/- Both disks, apart: each call answers the same of both. -/
import Derived.Test.YtodmfljhojdbkaaDdH
import Derived.Test.YtodmfljhojdbkaaDdJ
namespace Go.Proofs.Ytodmfljhojdbkaa.dskw
open Go.RowKit mem
set_option linter.unusedVariables false

/-- the blocks of both -/
structure PP (base p bl bm q bL bN bD : Nat) : Prop where
  g1 : ∀ k, Dbl p bl bm k → base ≤ k
  g2 : ∀ k, Dd4 q bL bN bD k → base ≤ k
  g3 : ∀ k, Dbl p bl bm k → ¬ Dd4 q bL bN bD k
def Bth (p bl bm q bL bN bD k : Nat) : Prop := Dbl p bl bm k ∨ Dd4 q bL bN bD k
def DDo (p bl bm q bL bN bD n cL cN cD : Nat) (off : Bool) (w : World) : Prop := ∃ (L : Nat → List Nat) (C : Nat → Option (List Nat)) (cut : Int) (La No : Nat → List Nat) (Di : Nat → Bool) (armed : Int), DskAt w p bl bm n L C cut off ∧ DdAt w q bL bN bD n cL cN cD La No Di armed off ∧ Lkd n L C cut off La No Di armed off
def DD (p bl bm q bL bN bD n cL cN cD : Nat) (w : World) : Prop := ∃ off, DDo p bl bm q bL bN bD n cL cN cD off w
theorem DDo.only {S : Nat → Prop} {p bl bm q bL bN bD n cL cN cD : Nat} {off : Bool} {w w' : World} (h : DDo p bl bm q bL bN bD n cL cN cD off w) (ho : Only S w w') (hS : ∀ k, Bth p bl bm q bL bN bD k → ¬ S k) : DDo p bl bm q bL bN bD n cL cN cD off w' := by
  obtain ⟨L, C, cut, La, No, Di, armed, h1, h2, h3⟩ := h
  exact ⟨L, C, cut, La, No, Di, armed, h1.only ho (hS _ (.inl (.inl rfl))) (hS _ (.inl (.inr (.inl rfl)))) (hS _ (.inl (.inr (.inr rfl)))), h2.only ho (fun k hk => hS k (.inr hk)), h3⟩
theorem DDo.quiet {p bl bm q bL bN bD n cL cN cD : Nat} {off : Bool} {w w' : World} (h : DDo p bl bm q bL bN bD n cL cN cD off w) (ho : Only (fun _ => False) w w') : DDo p bl bm q bL bN bD n cL cN cD off w' := h.only ho (fun _ _ f => f)
theorem DD.only {S : Nat → Prop} {p bl bm q bL bN bD n cL cN cD : Nat} {w w' : World} (h : DD p bl bm q bL bN bD n cL cN cD w) (ho : Only S w w') (hS : ∀ k, Bth p bl bm q bL bN bD k → ¬ S k) : DD p bl bm q bL bN bD n cL cN cD w' := by
  obtain ⟨off, h⟩ := h
  exact ⟨off, h.only ho hS⟩
theorem DD.quiet {p bl bm q bL bN bD n cL cN cD : Nat} {w w' : World} (h : DD p bl bm q bL bN bD n cL cN cD w) (ho : Only (fun _ => False) w w') : DD p bl bm q bL bN bD n cL cN cD w' := h.only ho (fun _ _ f => f)
theorem chk_thr2 (n : Nat) (f m : Int) : chk n false f m = if thr n f m = true then 0 else 1 := by
  have h1 : chk n false f m = if 0 ≤ f ∧ 0 ≤ m ∧ m ≤ (n : Int) - f then 0 else 1 := by unfold chk; rw [if_neg (by decide)]
  rw [h1]
  by_cases e : 0 ≤ f ∧ 0 ≤ m ∧ m ≤ (n : Int) - f
  · have h2 : thr n f m = true := by unfold thr; simp; omega
    rw [if_pos e, if_pos h2]
  · have h2 : ¬ thr n f m = true := by unfold thr; simp; omega
    rw [if_neg e, if_neg h2]
theorem read_both {p bl bm q bL bN bD n cL cN cD : Nat} {off : Bool} {w : World} (h : DDo p bl bm q bL bN bD n cL cN cD off w) (f m : Int) (hf : -9223372036854775808 ≤ f ∧ f ≤ 9223372036854775807) :
    Calls Try.prog 7 #[.pointer (some ⟨p, 0, none⟩), .int .i64 f, .int .i64 m] w fun e w1 => ∃ a len cap bs, e = .returned (.tuple #[.slice a len cap, .int .i64 (chk n off f m)]) ∧ Reads w1 a len bs ∧ Only (fun _ => False) w w1 ∧
      Calls Try.prog 8 #[.pointer (some ⟨q, 0, none⟩), .int .i64 f, .int .i64 m] w1 fun e w2 => e = .returned (.tuple #[.string (strN bs), .int .i64 (chk n off f m)]) ∧ w1 = w2 := by
  obtain ⟨L, C, cut, La, No, Di, armed, h1, h2, hl⟩ := h
  by_cases hc : chk n off f m = 0
  · cases off
    · have ht : thr n f m = true := by
        rw [chk_thr2] at hc
        by_cases e : thr n f m = true
        · exact e
        · rw [if_neg e] at hc; exact absurd hc (by decide)
      have ht2 := ht
      unfold thr at ht2
      simp at ht2
      obtain ⟨F, rfl⟩ := Int.eq_ofNat_of_zero_le ht2.1
      obtain ⟨M, rfl⟩ := Int.eq_ofNat_of_zero_le ht2.2.1
      rw [hc]
      refine (read_yes p bl bm n L C cut F M (by omega) w h1).mono ?_
      rintro _ w1 ⟨g, cap, rfl, hown, ho, hg⟩
      refine ⟨some ⟨g, 0, none⟩, _, cap, secs (dskw.cur L C) F M, rfl, hown.reads rfl, ho, ?_⟩
      rw [← hl.read (f := F) (m := M) (by omega)]
      exact rread_yes q bL bN bD n cL cN cD La No Di armed F M w1 (h2.quiet ho) ht
    · rw [chk_off] at hc; exact absurd hc (by decide)
  · refine (read_no p bl bm n L C cut off f m hf w h1 hc).mono ?_
    rintro _ w1 ⟨rfl, rfl⟩
    refine ⟨none, 0, 0, [], rfl, ⟨rfl, by unfold maxLen; omega, fun c hc => (by cases hc), .inl rfl⟩, Only.refl _ _, ?_⟩
    cases off
    · rw [chk_thr2] at hc ⊢
      by_cases e : thr n f m = true
      · rw [if_pos e] at hc; exact absurd rfl hc
      · rw [if_neg e]
        exact rread_no q bL bN bD n cL cN cD La No Di armed f m w h2 (by simpa using e)
    · rw [chk_off]
      exact rread_off q bL bN bD n cL cN cD La No Di armed f m w h2
theorem arm_eq (cut : Int) (m : Nat) : wrOff (max cut 0) m = wrOff cut m ∧ wrK (max cut 0) m = wrK cut m ∧ wrE (max cut 0) m = wrE cut m ∧ cutJ (max cut 0) (wrK cut m) = max (cutJ cut (wrK cut m)) 0 := by
  by_cases h : 0 < cut
  · have e : max cut 0 = cut := by omega
    rw [e]
    refine ⟨rfl, rfl, rfl, ?_⟩
    unfold cutJ wrK
    rw [if_pos h]
    by_cases h2 : 0 < cut ∧ cut ≤ (m : Int)
    · rw [if_pos h2]; omega
    · rw [if_neg h2]; omega
  · have e : max cut 0 = 0 := by omega
    have h1 : ¬ (0 < cut ∧ cut ≤ (m : Int)) := fun x => h x.1
    have h2 : ¬ ((0 : Int) < 0 ∧ (0 : Int) ≤ (m : Int)) := by omega
    rw [e]
    have e1 : wrOff 0 m = wrOff cut m := by unfold wrOff; rw [decide_eq_false h1, decide_eq_false h2]
    refine ⟨e1, ?_, ?_, ?_⟩
    · unfold wrK; rw [if_neg h1, if_neg h2]
    · unfold wrE; rw [e1]
    · unfold cutJ; rw [if_neg h, if_neg (by omega)]; omega
theorem Lkd.write {n : Nat} {L : Nat → List Nat} {C : Nat → Option (List Nat)} {cut : Int} {off : Bool} {La No : Nat → List Nat} {Di : Nat → Bool} {armed : Int} {off2 : Bool} (h : Lkd n L C cut off La No Di armed off2) (f m : Nat) (lb : List Nat) : Lkd n L (wrC C f lb (wrK cut m)) (cutJ cut (wrK cut m)) (wrOff cut m) La (wrN No f lb (wrK cut m)) (wrD Di f (wrK cut m)) (cutJ armed (wrK cut m)) (wrOff cut m) := by
  refine ⟨h.l, fun i hi => ?_, fun i hi => ?_, by rw [h.a]; exact (arm_eq cut m).2.2.2, rfl⟩
  · have h2 := h.m i hi
    unfold wrN dskw.cur wrC
    by_cases e : f ≤ i ∧ i < f + wrK cut m
    · rw [if_pos e, if_pos e]; rfl
    · rw [if_neg e, if_neg e]; exact h2
  · have h2 := h.d i hi
    unfold wrD wrC
    by_cases e : f ≤ i ∧ i < f + wrK cut m
    · rw [if_pos e, if_pos e]; rfl
    · rw [if_neg e, if_neg e]; exact h2
theorem write_both {base p bl bm q bL bN bD n cL cN cD : Nat} {w : World} (hp : PP base p bl bm q bL bN bD) (h : DD p bl bm q bL bN bD n cL cN cD w) (f : Int) (hf : -9223372036854775808 ≤ f ∧ f ≤ 9223372036854775807) (a : Option Addr) (len cap : Nat) (lb : List Nat) (hb : Bytes w a len cap lb) (ha : ∀ x, a = some x → ¬ Dbl p bl bm x.block) (hlen : len ≤ 1000) :
    Calls Try.prog 10 #[.pointer (some ⟨p, 0, none⟩), .int .i64 f, .slice a len cap] w fun e w1 => ∃ er : Int, e = .returned (.int .i64 er) ∧ Only (Dbl p bl bm) w w1 ∧
      Calls Try.prog 11 #[.pointer (some ⟨q, 0, none⟩), .int .i64 f, .string (strN lb)] w1 fun e w2 => e = .returned (.int .i64 er) ∧ Only (Dd4 q bL bN bD) w1 w2 ∧ DD p bl bm q bL bN bD n cL cN cD w2 := by
  obtain ⟨off, L, C, cut, La, No, Di, armed, h1, h2, hl⟩ := h
  have hll : lb.length = len := hb.1.1
  cases off
  · by_cases hc : chk n false f ((len / 64 : Nat) : Int) = 0
    · have ht : thr n f ((len / 64 : Nat) : Int) = true := by
        rw [chk_thr2] at hc
        by_cases e : thr n f ((len / 64 : Nat) : Int) = true
        · exact e
        · rw [if_neg e] at hc; exact absurd hc (by decide)
      by_cases hm : len % 64 = 0
      · have ht2 := ht
        unfold thr at ht2
        simp at ht2
        obtain ⟨F, rfl⟩ := Int.eq_ofNat_of_zero_le ht2.1
        obtain ⟨M, rfl⟩ : ∃ M, len = M * 64 := ⟨len / 64, by omega⟩
        have hFM : F + M ≤ n := by omega
        refine (write_yes p bl bm n L C cut F M hFM a cap lb w h1 hb ha).mono ?_
        rintro _ w1 ⟨rfl, hd, ho⟩
        refine ⟨_, rfl, ho, ?_⟩
        have h2' := h2.only ho (fun k hk s => hp.g3 k s hk)
        refine (rwrite_yes q bL bN bD n cL cN cD La No Di armed F M hFM lb w1 h2' hll hb.1.2.2.1).mono ?_
        rintro _ w2 ⟨rfl, hd2, ho2⟩
        obtain ⟨e1, e2, e3, e4⟩ := arm_eq cut M
        rw [← hl.a] at e1 e2 e3 e4
        rw [e1, e2] at hd2
        refine ⟨by rw [e3], ho2, _, L, _, _, La, _, _, _, hd.only ho2 (hp.g3 _ (.inl rfl)) (hp.g3 _ (.inr (.inl rfl))) (hp.g3 _ (.inr (.inr rfl))), hd2, hl.write F M lb⟩
      · refine (write_odd p bl bm n L C cut false f a len cap (by omega) hf w h1 hc hm).mono ?_
        rintro _ w1 ⟨rfl, rfl⟩
        refine ⟨1, rfl, Only.refl _ _, ?_⟩
        refine (rwrite_odd q bL bN bD n cL cN cD La No Di armed f lb w h2 (by rw [hll]; exact hm)).mono ?_
        rintro _ w2 ⟨rfl, rfl⟩
        exact ⟨rfl, Only.refl _ _, _, L, C, cut, La, No, Di, armed, h1, h2, hl⟩
    · refine (write_no p bl bm n L C cut false f a len cap (by omega) hf w h1 hc).mono ?_
      rintro _ w1 ⟨rfl, rfl⟩
      have ht : thr n f ((len / 64 : Nat) : Int) = false := by
        rw [chk_thr2] at hc
        by_cases e : thr n f ((len / 64 : Nat) : Int) = true
        · rw [if_pos e] at hc; exact absurd rfl hc
        · simpa using e
      have he : chk n false f ((len / 64 : Nat) : Int) = 1 := by rw [chk_thr2, ht]; rfl
      rw [he]
      refine ⟨1, rfl, Only.refl _ _, ?_⟩
      by_cases hm : len % 64 = 0
      · refine (rwrite_no q bL bN bD n cL cN cD La No Di armed f (len / 64) lb w h2 (by rw [hll]; omega) (by omega) ht).mono ?_
        rintro _ w2 ⟨rfl, rfl⟩
        exact ⟨rfl, Only.refl _ _, _, L, C, cut, La, No, Di, armed, h1, h2, hl⟩
      · refine (rwrite_odd q bL bN bD n cL cN cD La No Di armed f lb w h2 (by rw [hll]; exact hm)).mono ?_
        rintro _ w2 ⟨rfl, rfl⟩
        exact ⟨rfl, Only.refl _ _, _, L, C, cut, La, No, Di, armed, h1, h2, hl⟩
  · refine (write_no p bl bm n L C cut true f a len cap (by omega) hf w h1 (by rw [chk_off]; decide)).mono ?_
    rintro _ w1 ⟨rfl, rfl⟩
    rw [chk_off]
    refine ⟨12, rfl, Only.refl _ _, ?_⟩
    refine (rwrite_off q bL bN bD n cL cN cD La No Di armed f lb w h2).mono ?_
    rintro _ w2 ⟨rfl, rfl⟩
    exact ⟨rfl, Only.refl _ _, _, L, C, cut, La, No, Di, armed, h1, h2, hl⟩
theorem sync_both {base p bl bm q bL bN bD n cL cN cD : Nat} {w : World} (hp : PP base p bl bm q bL bN bD) (h : DD p bl bm q bL bN bD n cL cN cD w) :
    Calls Try.prog 12 #[.pointer (some ⟨p, 0, none⟩)] w fun e w1 => ∃ er : Int, e = .returned (.int .i64 er) ∧ Only (Dbl p bl bm) w w1 ∧
      Calls Try.prog 13 #[.pointer (some ⟨q, 0, none⟩)] w1 fun e w2 => e = .returned (.int .i64 er) ∧ Only (Dd4 q bL bN bD) w1 w2 ∧ DD p bl bm q bL bN bD n cL cN cD w2 := by
  obtain ⟨off, L, C, cut, La, No, Di, armed, h1, h2, hl⟩ := h
  cases off
  · refine (sync_yes p bl bm n L C cut w h1).mono ?_
    rintro _ w1 ⟨rfl, hd, ho⟩
    refine ⟨0, rfl, ho, ?_⟩
    refine (rsync_on q bL bN bD n cL cN cD La No Di armed w1 (h2.only ho (fun k hk s => hp.g3 k s hk))).mono ?_
    rintro _ w2 ⟨rfl, hd2, ho2⟩
    exact ⟨rfl, ho2, _, _, _, _, _, _, _, _, hd.only ho2 (hp.g3 _ (.inl rfl)) (hp.g3 _ (.inr (.inl rfl))) (hp.g3 _ (.inr (.inr rfl))), hd2, hl.sync⟩
  · refine (sync_off p bl bm n L C cut w h1).mono ?_
    rintro _ w1 ⟨rfl, rfl⟩
    refine ⟨12, rfl, Only.refl _ _, ?_⟩
    refine (rsync_off q bL bN bD n cL cN cD La No Di armed w h2).mono ?_
    rintro _ w2 ⟨rfl, rfl⟩
    exact ⟨rfl, Only.refl _ _, _, L, C, cut, La, No, Di, armed, h1, h2, hl⟩
theorem cut_both {base p bl bm q bL bN bD n cL cN cD : Nat} {w : World} (hp : PP base p bl bm q bL bN bD) (h : DD p bl bm q bL bN bD n cL cN cD w) (c : Int) (hc : -9223372036854775808 ≤ c ∧ c ≤ 9223372036854775807) :
    Calls Try.prog 14 #[.pointer (some ⟨p, 0, none⟩), .int .i64 c] w fun e w1 => e = .returned (.tuple #[]) ∧ Only (Dbl p bl bm) w w1 ∧ (∃ z : Int, w1.cell? ⟨q, 3, none⟩ = some (.int .i64 z)) ∧ w1.frozen? ⟨q, 3, none⟩ = false ∧ DD p bl bm q bL bN bD n cL cN cD (w1.setCell ⟨q, 3, none⟩ (.int .i64 (max c 0))) := by
  obtain ⟨off, L, C, cut, La, No, Di, armed, h1, h2, hl⟩ := h
  refine (cut_any p bl bm n L C cut off c hc w h1).mono ?_
  rintro _ w1 ⟨rfl, hd, ho⟩
  have h2' := h2.only ho (fun k hk s => hp.g3 k s hk)
  have hst : Only (fun k => k = q) w1 (w1.setCell ⟨q, 3, none⟩ (.int .i64 (max c 0))) := Only.set (fun x => x = q) _ q 3 _ rfl
  have hq : ∀ k, Dbl p bl bm k → ¬ k = q := fun k hk e => hp.g3 k hk (.inl e)
  exact ⟨rfl, ho, ⟨_, h2'.c3⟩, h2'.f3, off, L, C, c, La, No, Di, max c 0, hd.only hst (hq _ (.inl rfl)) (hq _ (.inr (.inl rfl))) (hq _ (.inr (.inr rfl))), h2'.setA (max c 0) (by omega), hl.cut c⟩
theorem crash_both {base p bl bm q bL bN bD n cL cN cD : Nat} {w : World} (hp : PP base p bl bm q bL bN bD) (h : DD p bl bm q bL bN bD n cL cN cD w) (a : Option Addr) (len cap : Nat) (kl : List Bool) (hk : Bools w a len kl) (ha : 0 < len → ∀ x, a = some x → ¬ Bth p bl bm q bL bN bD x.block) :
    Calls Try.prog 15 #[.pointer (some ⟨p, 0, none⟩), .slice a len cap] w fun e w1 => e = .returned (.tuple #[]) ∧ Only (Dbl p bl bm) w w1 ∧
      Calls Try.prog 16 #[.pointer (some ⟨q, 0, none⟩), .slice a len cap] w1 fun e w2 => e = .returned (.tuple #[]) ∧ Only (Dd4 q bL bN bD) w1 w2 ∧ DDo p bl bm q bL bN bD n cL cN cD false w2 := by
  obtain ⟨off, L, C, cut, La, No, Di, armed, h1, h2, hl⟩ := h
  refine (crash_any p bl bm n L C cut off a len cap kl w h1 hk (fun h0 x e s => ha h0 x e (.inl s))).mono ?_
  rintro _ w1 ⟨rfl, hd, ho⟩
  refine ⟨rfl, ho, ?_⟩
  have hk1 : Bools w1 a len kl := by
    obtain ⟨k1, k2, k3⟩ := hk
    by_cases h0 : len = 0
    · exact ⟨k1, k2, .inl h0⟩
    · obtain ⟨b, o, e, hc⟩ := k3.resolve_left h0
      exact ⟨k1, k2, .inr ⟨b, o, e, fun j hj => ho.cell' (hc j hj) (fun s => ha (by omega) _ e (.inl s))⟩⟩
  refine (rcrash_any q bL bN bD n cL cN cD La No Di armed off a len cap kl w1 (h2.only ho (fun k hk s => hp.g3 k s hk)) hk1 (fun h0 x e s => ha h0 x e (.inr s))).mono ?_
  rintro _ w2 ⟨rfl, hd2, ho2⟩
  exact ⟨rfl, ho2, _, _, _, _, _, _, _, hd.only ho2 (hp.g3 _ (.inl rfl)) (hp.g3 _ (.inr (.inl rfl))) (hp.g3 _ (.inr (.inr rfl))), hd2, hl.crash kl⟩
/-- what is asked behind each job -/
theorem ask_both {p bl bm q bL bN bD n cL cN cD : Nat} {off : Bool} {w : World} (h : DDo p bl bm q bL bN bD n cL cN cD off w) : ∃ l : List Int, l.length ≤ 8192 ∧ (∀ c ∈ l, -9223372036854775808 ≤ c ∧ c ≤ 9223372036854775807) ∧ (∀ w', Only (fun _ => False) w w' →
    w'.cell? ⟨q, 4, none⟩ = some (.bool off) ∧
    Calls Try.prog 17 #[.pointer (some ⟨p, 0, none⟩)] w' (fun e w2 => e = .returned (.bool off) ∧ w' = w2) ∧
    Calls Try.prog 19 #[.pointer (some ⟨p, 0, none⟩)] w' (fun e w2 => ∃ a cap, e = .returned (.slice a l.length cap) ∧ ReadsI w2 a l.length l ∧ Only (fun _ => False) w' w2) ∧
    Calls Try.prog 20 #[.pointer (some ⟨q, 0, none⟩)] w' (fun e w2 => ∃ a cap, e = .returned (.slice a l.length cap) ∧ ReadsI w2 a l.length l ∧ Only (fun _ => False) w' w2)) := by
  obtain ⟨L, C, cut, La, No, Di, armed, h1, h2, hl⟩ := h
  have hll := dirty_len C n
  have h7 := h2.h7
  have hb : ∀ c ∈ ints (dirtyL C n), -9223372036854775808 ≤ c ∧ c ≤ 9223372036854775807 := by
    intro c hc
    unfold ints at hc
    rw [List.mem_map] at hc
    obtain ⟨i, hi, rfl⟩ := hc
    unfold dirtyL at hi
    have := List.mem_range.1 (List.mem_filter.1 hi).1
    omega
  refine ⟨ints (dirtyL C n), by rw [ints_len]; omega, hb, fun w' ho => ⟨(h2.quiet ho).c4, offs_any p bl bm n L C cut off w' (h1.only ho (fun f => f) (fun f => f) (fun f => f)), ?_, ?_⟩⟩
  · refine (dirty_any p bl bm n L C cut off w' (h1.only ho (fun f => f) (fun f => f) (fun f => f))).mono ?_
    rintro _ w2 ⟨v, rfl, ⟨hown, -, hbe⟩⟩
    have ho1 : owi.OwnI w2 v (ints (dirtyL C n)) := by
      unfold owi.OwnI iv
      rw [ints_len, ints_enc]
      exact owns_le hown (Nat.zero_le _)
    obtain ⟨a, cap, rfl, hr⟩ := ho1.reads hb (by rw [ints_len]; omega)
    exact ⟨a, cap, rfl, hr, Only.of_below hbe⟩
  · refine (list_any q bL bN bD n cL cN cD La No Di armed off w' (h2.quiet ho)).mono ?_
    rintro _ w2 ⟨v, rfl, hown, -, ho2⟩
    rw [hl.list] at hown
    obtain ⟨a, cap, rfl, hr⟩ := hown.reads hb (by rw [ints_len]; omega)
    exact ⟨a, cap, rfl, hr, ho2⟩
end Go.Proofs.Ytodmfljhojdbkaa.dskw
