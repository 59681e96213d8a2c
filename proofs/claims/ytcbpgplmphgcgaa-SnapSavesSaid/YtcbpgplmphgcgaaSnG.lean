/- What a slot's bytes have: the program's parse. -/
import Derived.Test.YtcbpgplmphgcgaaSnF
import Derived.Test.YtcbpgplmphgcgaaCodRead
import Derived.Test.YtcbpgplmphgcgaaDskS
import Derived.Deep.QuietTactic
import Derived.BigQuiet
import Derived.Laws.Strings
import Derived.Deep.CutRange
import Derived.Deep.CutBlock
namespace Go.Proofs.Ytcbpgplmphgcgaa.snw
open Go.RowKit mem snm crcm dskw
set_option linter.unusedVariables false

theorem equal_any (a b : Option Addr) (n m c d : Nat) (l r : List Nat) (w : World) (h1 : Reads w a n l) (h2 : Reads w b m r) : Calls Try.prog 86 #[.slice a n c, .slice b m d] w fun e w' => e = .returned (.bool (decide (l = r))) ∧ w = w' := by
  have c1 := dskw.conv_reads h1 c
  have c2 := dskw.conv_reads h2 d
  have hq : ((dskw.strN l).toList == (dskw.strN r).toList) = decide (l = r) := by
    rw [Bool.eq_iff_iff, decide_eq_true_iff, beq_iff_eq]
    constructor
    · intro e
      apply dskw.strN_inj h1.2.2.1 h2.2.2.1
      have e2 : (dskw.strN l).data.toList = (dskw.strN r).data.toList := by rw [← ByteArray.toList_eq, ← ByteArray.toList_eq]; exact e
      exact congrArg ByteArray.mk (Array.toList_inj.1 e2)
    · intro e; rw [e]
  generalize decide (l = r) = z at *
  clear h1 h2
  go_enter Try.func86, Try.ntmps86
  go_wp2_with fail
  go_ret
  exact ⟨rfl, rfl⟩
theorem drewN_sn {S : Nat → Prop} {a w : World} (h : Only S a w) (n : Nat) : Only S a (w.drewN n) := ⟨h.os, h.tape, h.output, h.size, h.block⟩
theorem own_form {w : World} {v : Value} {l : List Nat} (h : OwnB w v l) : ∃ a c, v = .slice a l.length c ∧ Reads w a l.length l := by
  rcases h.forms with ⟨rfl, rfl⟩ | ⟨g, c, rfl, -⟩
  · exact ⟨none, 0, rfl, ⟨rfl, by unfold maxLen; simp, (fun c hc => by cases hc), .inl rfl⟩⟩
  · exact ⟨_, c, rfl, h.reads rfl⟩
/-- a part of a row -/
theorem reads_sub {w : World} {b off len : Nat} {l : List Nat} (h : Reads w (some ⟨b, off, none⟩) len l) (i j : Nat) (hij : i ≤ j) (hj : j ≤ len) : Reads w (some ⟨b, off + i, none⟩) (j - i) ((l.drop i).take (j - i)) :=
  (codw.Reads.drop h i (by omega)).take (j - i) (by omega)
theorem wrap_toI (n : Nat) (h : n < 18446744073709551616) : IntKind.i64.wrap (n : Int) = toI n := by
  rw [IntKind.wrap_i64]
  unfold toI
  split <;> omega
theorem toI_bd (n : Nat) (h : n < 18446744073709551616) : -9223372036854775808 ≤ toI n ∧ toI n ≤ 9223372036854775807 := by
  unfold toI
  split <;> omega
/-- what a slot has, in memory -/
def SlR (w : World) (r : Nat × List Nat) (e : Ending) (w' : World) : Prop := ∃ va vc, e = .returned (.agg #[.int .i64 (r.1 : Int), .slice va r.2.length vc]) ∧ OwnB w' (.slice va r.2.length vc) r.2 ∧ (∀ y, va = some y → w.heap.size ≤ y.block) ∧ Only (fun _ => False) w w'
theorem slbox {w w1 : World} {g : Nat} {t : TypeId} {x0 x1 : Value} (hw : w1 = w.alloc (.cells #[x0, x1] t)) (hg : g = w.heap.size) : w1.cell? ⟨g, 0, none⟩ = some x0 ∧ w1.cell? ⟨g, 1, none⟩ = some x1 ∧ (∀ j, w1.frozen? ⟨g, j, none⟩ = false) ∧ Only (fun _ => False) w w1 := by
  subst hw hg
  have h : ∀ k u, (#[x0, x1] : Array Value)[k]? = some u → (w.alloc (.cells #[x0, x1] t)).cell? ⟨w.heap.size, k, none⟩ = some u := fun k u hu => by
    rw [Go.Joins.cell_of_block (cs := #[x0, x1]) (t := t) (fr := (0, 0)) (by rw [heap_alloc, if_pos rfl])]; exact hu
  refine ⟨h 0 _ rfl, h 1 _ rfl, fun j => ?_, (Only.refl _ w).alloc _⟩
  have e : (w.alloc (.cells #[x0, x1] t)).heap[w.heap.size]? = some (.cells #[x0, x1] t) := by rw [heap_alloc, if_pos rfl]
  unfold World.frozen?
  dsimp only
  rw [e]
  simp
/-- both cells of a box, set one behind the other -/
def put2 (w : World) (g : Nat) (x0 x1 : Value) : World := (w.setCell ⟨g, 0, none⟩ x0).setCell ⟨g, 1, none⟩ x1
theorem put2_facts {w : World} {g : Nat} {x0 x1 u0 u1 : Value} (h0 : w.cell? ⟨g, 0, none⟩ = some u0) (h1 : w.cell? ⟨g, 1, none⟩ = some u1) : (put2 w g x0 x1).cell? ⟨g, 0, none⟩ = some x0 ∧ (put2 w g x0 x1).cell? ⟨g, 1, none⟩ = some x1 ∧ Only (fun q => q = g) w (put2 w g x0 x1) := by
  unfold put2
  refine ⟨?_, ?_, (Only.set (fun q => q = g) w g 0 x0 rfl).trans (Only.set (fun q => q = g) _ g 1 x1 rfl)⟩
  · rw [cell_other (fun e => by injection e with _ e _; omega)]; exact cell_same h0
  · exact cell_same (by rw [cell_other (fun e => by injection e with _ e _; omega)]; exact h1)
set_option maxRecDepth 100000 in
set_option maxHeartbeats 4000000 in
theorem parse_any (b off len cap odd : Nat) (l : List Nat) (w : World) (h : Reads w (some ⟨b, off, none⟩) len l) (hc : len ≤ cap) (hcm : cap ≤ 9223372036854775807) (hlm : len ≤ 1000000) (h64 : 64 ≤ len) (ho : odd ≤ 1) : Calls Try.prog 82 #[.slice (some ⟨b, off, none⟩) len cap, .int .i64 (odd : Int)] w (SlR w (parse l odd)) := by
  have HR := Lib.hid h
  have hll := h.1
  obtain ⟨w1, hw1⟩ : ∃ x, x = w.alloc (.cells #[.int .i64 0, .slice none 0 0] 119) := ⟨_, rfl⟩
  obtain ⟨g, hg⟩ : ∃ x, x = w.heap.size := ⟨_, rfl⟩
  obtain ⟨z0, z1, zf, hal⟩ := slbox hw1 hg
  have HZ : Hid (w1.cell? ⟨g, 0, none⟩ = some (.int .i64 0) ∧ w1.cell? ⟨g, 1, none⟩ = some (.slice none 0 0) ∧ ∀ j, w1.frozen? ⟨g, j, none⟩ = false) := Lib.hid ⟨z0, z1, zf⟩
  have HO1 := Lib.hid hal
  have HG := Lib.hid hg
  have HR1 := Lib.hid (h.only hal (fun _ _ f => f))
  have HG1 := Lib.hid (bread_any (some ⟨b, off + 1, none⟩) 8 (cap - 1) _ w1 (reads_sub HR1.out 1 9 (by omega) (by omega)) (by omega))
  have HG2 := Lib.hid (bread_any (some ⟨b, off + 9, none⟩) 8 (cap - 9) _ w1 (reads_sub HR1.out 9 17 (by omega) (by omega)) (by omega))
  have hlt1 := rb_lt ((l.drop 1).take 8)
  have hlt2 := rb_lt ((l.drop 9).take 8)
  have HP : Hid (parse l odd = if gOfB l < 1 ∨ gOfB l % 2 ≠ (odd : Int) ∨ cOfB l < 0 ∨ ((l.length - 64 : Nat) : Int) < cOfB l then (0, []) else if l.take 64 = headL (gOfB l).toNat ((l.drop 64).take (cOfB l).toNat) then ((gOfB l).toNat, (l.drop 64).take (cOfB l).toNat) else (0, [])) := Lib.hid rfl
  have hgb : toI (rb ((l.drop 1).take 8)) = gOfB l := rfl
  have hcb : toI (rb ((l.drop 9).take 8)) = cOfB l := rfl
  have hw1g := wrap_toI _ hlt1
  have hw2g := wrap_toI _ hlt2
  have hbd1 := toI_bd _ hlt1
  have hbd2 := toI_bd _ hlt2
  rw [hgb] at hw1g hbd1
  rw [hcb] at hw2g hbd2
  generalize rb ((l.drop 1).take 8) = r1 at *
  generalize rb ((l.drop 9).take 8) = r2 at *
  generalize gOfB l = G at *
  generalize cOfB l = C at *
  clear hgb hcb h z0 z1 zf hal
  go_enter Try.func82, Try.ntmps82
  go_upto_region 1 with fail
  simp only [← hw1, ← hg]
  clear hw1 hg
  go_wp2_with fail
  refine HG1.out.mono ?_
  rintro _ _ ⟨rfl, rfl⟩
  go_wp2_with fail
  refine HG2.out.mono ?_
  rintro _ _ ⟨rfl, rfl⟩
  go_wp2_with fail
  go_quiet (fail)
  have HO2 : Hid (Only (fun _ => False) w (w1.drewN nq)) := Lib.hid ((drewN_sn HO1.out nq))
  have HO12 : Hid (Only (fun _ => False) w1 (w1.drewN nq)) := Lib.hid ((drewN_sn (Only.refl _ w1) nq))
  obtain ⟨ao, hao⟩ : ∃ x, (if cap = 64 then some (⟨b, off, none⟩ : Addr) else some ⟨b, off + 64, none⟩) = x := ⟨_, rfl⟩
  simp only [hao]
  have HRM : Hid (Bytes w1 ao (len - 64) (cap - 64) (l.drop 64)) := Lib.hid (by
    rw [← hao]
    by_cases hc64 : cap = 64
    · rw [if_pos hc64]
      obtain rfl : len = 64 := by omega
      refine ⟨?_, by omega, by unfold maxLen; omega, fun e => by cases e⟩
      rw [List.drop_eq_nil_of_le (by omega)]
      exact ⟨rfl, by unfold maxLen; omega, (fun c hc => (by cases hc)), .inl rfl⟩
    · rw [if_neg hc64]
      exact ⟨codw.Reads.drop HR1.out 64 h64, by omega, by unfold maxLen; omega, fun e => by cases e⟩)
  have HSEC : Hid (Reads w1 (some ⟨b, off, none⟩) 64 (l.take 64)) := Lib.hid (HR1.out.take 64 h64)
  obtain ⟨w2, hw2⟩ : ∃ x, x = w1.drewN nq := ⟨_, rfl⟩
  rw [← hw2] at HO2 HO12 ⊢
  clear hw2 hao
  have z0 := HO12.out.cell' HZ.out.1 (fun f => f)
  have z1 := HO12.out.cell' HZ.out.2.1 (fun f => f)
  have hgl : g < w1.heap.size := World.block_lt_of_cell? w1 _ HZ.out.1
  have zf : ∀ j, w2.frozen? ⟨g, j, none⟩ = false := fun j => (HO12.out.frozen (p := ⟨g, j, none⟩) hgl (fun f => f)).trans (HZ.out.2.2 j)
  have hl64 : ((l.length - 64 : Nat) : Int) = ((len - 64 : Nat) : Int) := by rw [hll]
  by_cases h1 : G < 1
  · have HN : Hid (parse l odd = (0, [])) := Lib.hid (by rw [HP.out, if_pos (.inl h1)])
    clear HP HR1 HG1 HG2 HR
    go_wp2_with fail
    obtain ⟨x0, x1, hoW⟩ := put2_facts (x0 := .int .i64 0) (x1 := .slice none 0 0) z0 z1
    unfold put2 at x0 x1 hoW
    refine bodyPost_ret (v := .agg #[.int .i64 0, .slice none 0 0]) (by simp [results, Try.results82, go_sem, x0, x1]) rfl ?_
    rw [HN.out]
    exact ⟨none, 0, rfl, OwnB.nil _, (fun y e => by cases e), HO2.out.then hoW (fun q hq e => by have e : q = g := e; have := HG.out; omega)⟩
  · have htm : G.tmod 2 = G % 2 := Int.tmod_eq_emod_of_nonneg (by omega)
    by_cases h2 : G % 2 = (odd : Int)
    · by_cases h3 : C < 0
      · have HN : Hid (parse l odd = (0, [])) := Lib.hid (by rw [HP.out, if_pos (.inr (.inr (.inl h3)))])
        clear HP HR1 HG1 HG2 HR
        go_wp2_with fail
        obtain ⟨x0, x1, hoW⟩ := put2_facts (x0 := .int .i64 0) (x1 := .slice none 0 0) z0 z1
        unfold put2 at x0 x1 hoW
        refine bodyPost_ret (v := .agg #[.int .i64 0, .slice none 0 0]) (by simp [results, Try.results82, go_sem, x0, x1]) rfl ?_
        rw [HN.out]
        exact ⟨none, 0, rfl, OwnB.nil _, (fun y e => by cases e), HO2.out.then hoW (fun q hq e => by have e : q = g := e; have := HG.out; omega)⟩
      · by_cases h4 : ((len - 64 : Nat) : Int) < C
        · have HN : Hid (parse l odd = (0, [])) := Lib.hid (by rw [HP.out, if_pos (.inr (.inr (.inr (by rw [hl64]; exact h4))))])
          clear HP HR1 HG1 HG2 HR
          go_wp2_with fail
          obtain ⟨x0, x1, hoW⟩ := put2_facts (x0 := .int .i64 0) (x1 := .slice none 0 0) z0 z1
          unfold put2 at x0 x1 hoW
          refine bodyPost_ret (v := .agg #[.int .i64 0, .slice none 0 0]) (by simp [results, Try.results82, go_sem, x0, x1]) rfl ?_
          rw [HN.out]
          exact ⟨none, 0, rfl, OwnB.nil _, (fun y e => by cases e), HO2.out.then hoW (fun q hq e => by have e : q = g := e; have := HG.out; omega)⟩
        · obtain ⟨cn, hcn⟩ : ∃ cn : Nat, C = (cn : Int) := ⟨C.toNat, by omega⟩
          obtain ⟨gn, hgn⟩ : ∃ gn : Nat, G = (gn : Int) := ⟨G.toNat, by omega⟩
          subst hcn hgn
          rw [Int.toNat_natCast, Int.toNat_natCast] at HP
          have hcl : cn ≤ len - 64 := by omega
          have HCLN := Lib.hid (codw.clone_any ao cn (cap - 64) ((l.drop 64).take cn) w2 ⟨(HRM.out.1.take cn hcl).only HO12.out (fun _ _ f => f), by omega, by unfold maxLen; omega, HRM.out.2.2.2⟩ (by omega))
          have hcc : (cn : Int) ≤ ((cap - 64 : Nat) : Int) := by omega
          have hc0 : (0 : Int) ≤ cn := by omega
          obtain ⟨im, him⟩ : ∃ x, (l.drop 64).take cn = x := ⟨_, rfl⟩
          have HIML : Hid (im.length = cn) := Lib.hid (by rw [← him, List.length_take, List.length_drop]; omega)
          rw [him] at HP HCLN
          have hgn1 : ¬ (gn : Int) < 1 := h1
          have hgg : gn < 9223372036854775808 := by omega
          have HIF : Hid (¬ ((gn : Int) < 1 ∨ (gn : Int) % 2 ≠ (odd : Int) ∨ (cn : Int) < 0 ∨ ((l.length - 64 : Nat) : Int) < (cn : Int))) := Lib.hid (by rw [hl64]; omega)
          have hcn4 : ¬ ((len - 64 : Nat) : Int) < (cn : Int) := h4
          have hcap4 : (cn : Int) ≤ (cap : Int) - 64 := by omega
          clear him z0 z1 zf
          go_wp2_with fail
          with_reducible refine HCLN.out.mono ?_
          rintro _ w3 ⟨v3, rfl, hown, ho, hk⟩
          obtain ⟨va, vc, rfl, hrd⟩ := own_form hown
          have HOW3 := Lib.hid hown
          have HO3 : Hid (Only (fun _ => False) w1 w3) := Lib.hid (HO12.out.trans ho)
          have HK3 : Hid (∀ y, va = some y → w1.heap.size ≤ y.block) := Lib.hid (fun y e => Nat.le_trans HO12.out.size (hk y.block (by rw [e]; rfl)))
          have HHD := Lib.hid (head_any gn va im.length vc im w3 hrd hgg (by have := HIML.out; omega))
          clear hown ho hk hrd HCLN
          go_wp2_with fail
          with_reducible refine HHD.out.mono ?_
          rintro _ w4 ⟨g4, c4, rfl, ho4, hl4, hm4, hg4, hO4⟩
          have HO4 : Hid (Only (fun _ => False) w1 w4) := Lib.hid (HO3.out.trans hO4)
          have HOW4 := Lib.hid (HOW3.out.only hO4 (fun _ _ f => f))
          have HEQ := Lib.hid (equal_any (some ⟨b, off, none⟩) (some ⟨g4, 0, none⟩) 64 (headL gn im).length cap c4 (l.take 64) (headL gn im) w4 (HSEC.out.only HO4.out (fun _ _ f => f)) (ho4.reads rfl))
          clear ho4 hl4 hO4 HHD HOW3 HO3
          obtain ⟨hn4, hhn4⟩ : ∃ x, (headL gn im).length = x := ⟨_, rfl⟩
          rw [hhn4] at HEQ ⊢
          go_wp2_with fail
          with_reducible refine HEQ.out.mono ?_
          rintro _ _ ⟨rfl, rfl⟩
          have z0 := HO4.out.cell' HZ.out.1 (fun f => f)
          have z1 := HO4.out.cell' HZ.out.2.1 (fun f => f)
          have zf : ∀ j, w4.frozen? ⟨g, j, none⟩ = false := fun j => (HO4.out.frozen (p := ⟨g, j, none⟩) hgl (fun f => f)).trans (HZ.out.2.2 j)
          clear HEQ hhn4
          by_cases hq : l.take 64 = headL gn im
          · have HN : Hid (parse l odd = (gn, im)) := Lib.hid (by rw [HP.out, if_neg HIF.out, if_pos hq])
            rw [decide_eq_true hq]
            clear HP HR1 HG1 HG2 HR hq
            go_wp2_with fail
            obtain ⟨x0, x1, hoW⟩ := put2_facts (x0 := .int .i64 (gn : Int)) (x1 := .slice va im.length vc) z0 z1
            unfold put2 at x0 x1 hoW
            refine bodyPost_ret (v := .agg #[.int .i64 (gn : Int), .slice va im.length vc]) (by simp [results, Try.results82, go_sem, x0, x1]) rfl ?_
            rw [HN.out]
            refine ⟨va, vc, rfl, HOW4.out.only hoW (fun q e e2 => ?_), (fun y e => Nat.le_trans HO1.out.size (HK3.out y e)), (HO1.out.trans HO4.out).then hoW (fun q hq e => by have e : q = g := e; have := HG.out; omega)⟩
            have e2 : q = g := e2
            subst e2
            cases va with
            | none => cases e
            | some y =>
              have := HK3.out y rfl
              have e3 : y.block = q := by simpa [Value.ownBlock] using e
              omega
          · have HN : Hid (parse l odd = (0, [])) := Lib.hid (by rw [HP.out, if_neg HIF.out, if_neg hq])
            rw [decide_eq_false hq]
            clear HP HR1 HG1 HG2 HR hq
            go_wp2_with fail
            obtain ⟨x0, x1, hoW⟩ := put2_facts (x0 := .int .i64 0) (x1 := .slice none 0 0) z0 z1
            unfold put2 at x0 x1 hoW
            refine bodyPost_ret (v := .agg #[.int .i64 0, .slice none 0 0]) (by simp [results, Try.results82, go_sem, x0, x1]) rfl ?_
            rw [HN.out]
            exact ⟨none, 0, rfl, OwnB.nil _, (fun y e => by cases e), (HO1.out.trans HO4.out).then hoW (fun q hq e => by have e : q = g := e; have := HG.out; omega)⟩
    · have HN : Hid (parse l odd = (0, [])) := Lib.hid (by rw [HP.out, if_pos (.inr (.inl h2))])
      have h2n : ((G % 2 != (odd : Int))) = true := by simpa using h2
      clear HP HR1 HG1 HG2 HR
      go_wp2_with fail
      obtain ⟨x0, x1, hoW⟩ := put2_facts (x0 := .int .i64 0) (x1 := .slice none 0 0) z0 z1
      unfold put2 at x0 x1 hoW
      refine bodyPost_ret (v := .agg #[.int .i64 0, .slice none 0 0]) (by simp [results, Try.results82, go_sem, x0, x1]) rfl ?_
      rw [HN.out]
      exact ⟨none, 0, rfl, OwnB.nil _, (fun y e => by cases e), HO2.out.then hoW (fun q hq e => by have e : q = g := e; have := HG.out; omega)⟩
end Go.Proofs.Ytcbpgplmphgcgaa.snw
