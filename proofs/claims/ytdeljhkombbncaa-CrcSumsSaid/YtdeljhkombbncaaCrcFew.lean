/- The document's Few: what it answers. -/
import Derived.Test.YtdeljhkombbncaaCrcAll
import Derived.Test.YtdeljhkombbncaaStepApp
namespace Go.Proofs.Ytdeljhkombbncaa.crca
open Go.RowKit mem
open crcw (strN)
set_option linter.unusedVariables false

/-- slices of bytes that came in -/
def PartsB (w : World) (a : Option Addr) (n : Nat) (ls : List (List Nat)) : Prop :=
  ls.length = n ∧ n ≤ 9223372036854775807 ∧ (n = 0 ∨ ∃ b off, a = some ⟨b, off, Option.none⟩ ∧ ∀ i, i < n → ∃ a' len cap, w.cell? ⟨b, off + i, Option.none⟩ = some (.slice a' len cap) ∧ Bytes w a' len cap (ls.getD i []))

/-- the row on the way -/
def HeadF (w wr : World) (v : Value) (xs : List Value) (ls : List (List Nat)) : Prop :=
  wr.ownsRow 0 61 1 v ls.length xs ∧ Only (fun _ => False) w wr ∧ (∀ k, v.ownBlock = some k → w.heap.size ≤ k) ∧ (∀ u ∈ xs, u.oneCell' = true) ∧
  ∀ i, i < ls.length → ∃ x len cap, xs[i]? = some (.slice (some x) len cap) ∧ Reads wr (some x) len (ls.getD i []) ∧ v.ownBlock ≠ some x.block ∧ x.block < wr.heap.size

theorem headf_start (w : World) : HeadF w w (.slice Option.none 0 0) [] [] :=
  ⟨World.ownsRow_nil _ _ _ _, Only.refl _ _, (fun k hk => by cases hk), (fun u hu => by simp at hu), (fun i hi => by simp at hi)⟩

theorem headf_next {w wr w1 w2 : World} {v v2 : Value} {xs : List Value} {ms : List (List Nat)} {g c1 : Nat} {r : List Nat} {rl : Nat} {o : Obj} (h : HeadF w wr v xs ms) (o1 : Only (fun _ => False) wr w1) (hR : Reads w1 (some ⟨g, 0, none⟩) rl r)
    (hg : wr.heap.size ≤ g) (hg1 : g < w1.heap.size) (hown : w2.ownsRow 0 61 1 v2 (ms.length + 1) (xs ++ [.slice (some ⟨g, 0, none⟩) rl c1])) (hgrow : (w1.alloc o).grownBy w2 v.ownBlock)
    (hk : ∀ k, v2.ownBlock = some k → v.ownBlock = some k ∨ (w1.alloc o).heap.size ≤ k) : HeadF w w2 v2 (xs ++ [.slice (some ⟨g, 0, none⟩) rl c1]) (ms ++ [r]) := by
  obtain ⟨h1, h2, h3, h4, h5⟩ := h
  have ho : Only (fun k => v.ownBlock = some k) wr w2 := (o1.mono (T := fun k => v.ownBlock = some k) (fun _ _ f => f.elim)).trans (((Only.refl _ w1).alloc o).trans (Only.of_grown hgrow))
  have hsz : w1.heap.size ≤ (w1.alloc o).heap.size := by rw [size_alloc]; omega
  have hlen : xs.length = ms.length := by have := h1.1; omega
  have o12 : Only (fun k => v.ownBlock = some k) w1 w2 := ((Only.refl _ w1).alloc o).trans (Only.of_grown hgrow)
  have s1 := o1.size
  have s2 := h2.size
  have s3 := o12.size
  refine ⟨by rw [List.length_append]; exact hown, h2.then ho (fun i hi e => by have := h3 i e; omega), fun k e => ?_, fun u hu => ?_, fun i hi => ?_⟩
  · rcases hk k e with g1 | g1
    · exact h3 k g1
    · omega
  · rcases List.mem_append.1 hu with g1 | g1
    · exact h4 u g1
    · simp at g1; subst g1; rfl
  · rw [List.length_append] at hi
    by_cases e : i < ms.length
    · obtain ⟨x, len, cap, a1, a2, a3, a4⟩ := h5 i e
      refine ⟨x, len, cap, ?_, ?_, ?_, by omega⟩
      · rw [List.getElem?_append_left (by omega)]; exact a1
      · rw [show (ms ++ [r]).getD i [] = ms.getD i [] by simp [List.getD, List.getElem?_append_left e]]
        exact a2.only ho (fun y hy e2 => by obtain rfl : x = y := by simpa using hy
                                            exact a3 e2)
      · intro e2
        rcases hk _ e2 with g1 | g1
        · exact a3 g1
        · omega
    · obtain rfl : i = ms.length := by simp at hi; omega
      refine ⟨⟨g, 0, none⟩, rl, c1, ?_, ?_, ?_, by show g < _; omega⟩
      · rw [← hlen]; simp
      · rw [show (ms ++ [r]).getD ms.length [] = r by simp [List.getD]]
        exact hR.only o12 (fun y hy e2 => by
          obtain rfl : (⟨g, 0, none⟩ : Addr) = y := by simpa using hy
          have := (World.ownsRow.lt h1 g e2).2
          omega)
      · intro e2
        rcases hk _ e2 with g1 | g1
        · have := (World.ownsRow.lt h1 g g1).2
          omega
        · have : (w1.alloc o).heap.size ≤ g := g1
          omega

theorem head_form {w : World} {v : Value} {n : Nat} {t : TypeId} {xs : List Value} (h : w.ownsRow 0 t 1 v n xs) : ∃ a2 c2, v = .slice a2 n c2 := by
  rcases h.2 with ⟨hv, h0⟩ | ⟨g, cap, cur, hv, _⟩
  · exact ⟨Option.none, 0, by rw [hv, h0]⟩
  · exact ⟨_, cap, hv⟩

theorem heads_parts {w wr : World} {v : Value} {xs : List Value} {ms : List (List Nat)} (h : HeadF w wr v xs ms) {a2 : Option Addr} {c2 : Nat} (hv : v = .slice a2 ms.length c2) : PartsS wr a2 ms.length ms := by
  refine ⟨rfl, ?_⟩
  obtain ⟨h1, h2, h3, h4, h5⟩ := h
  have h1' := h1
  rcases h1.2 with ⟨hv2, h0⟩ | ⟨g, cap, cur, hv2, _⟩
  · exact .inl h0
  · refine .inr ⟨g, 0, ?_, fun i hi => ?_⟩
    · rw [hv2] at hv; cases hv; rfl
    · obtain ⟨x, len, cap', a1, a3, _⟩ := h5 i hi
      refine ⟨x, len, cap', ?_, a3⟩
      rw [hv2] at h1'
      rw [Nat.zero_add, h1'.cellAt i (by omega), a1]

theorem inner_facts {wr w1 : World} {v1 : Value} {m : Nat} {l' : List Nat} {o : Obj} (hown : w1.ownsRow wr.heap.size 5 1 v1 (0 + m) ([] ++ bv l')) (hgrow : ((wr.alloc o).drew).grownBy w1 (some wr.heap.size))
    (hne : v1 = .slice Option.none 0 0 ↔ Value.slice (some ⟨wr.heap.size, 0, Option.none⟩) 0 0 = .slice Option.none 0 0 ∧ m = 0) (hl : l'.length = m) (hb : ∀ c ∈ l', c < 256) (hm : m ≤ 500) :
    ∃ g c1, v1 = .slice (some ⟨g, 0, Option.none⟩) m c1 ∧ wr.heap.size ≤ g ∧ g < w1.heap.size ∧ Reads w1 (some ⟨g, 0, Option.none⟩) m l' ∧ Only (fun _ => False) wr w1 := by
  rw [Nat.zero_add, List.nil_append] at hown
  have hne2 : v1 ≠ .slice Option.none 0 0 := fun e => by
    have := (hne.1 e).1
    cases this
  rcases hown.2 with ⟨h0, _⟩ | ⟨g, cap, cur, hv, hg, hh, _⟩
  · exact absurd h0 hne2
  · subst hv
    refine ⟨g, cap, rfl, hg, heap_lt hh, ⟨hl, by unfold maxLen; omega, hb, .inr ⟨g, 0, rfl, fun i hi => ?_⟩⟩, ?_⟩
    · rw [Nat.zero_add, hown.cellAt i (by omega), bv_get l' i (by omega)]
    · refine (((Only.refl (fun _ => False) wr).alloc o).drew).then (Only.of_grown hgrow) (fun i hi e => ?_)
      have e2 : wr.heap.size = i := by simpa using e
      omega

theorem lit_one (w : World) (v : Value) (t : TypeId) : ∀ j u, [v][j]? = some u → (w.alloc (.cells #[v] t)).cell? ((Addr.mk w.heap.size 0 Option.none).add j) = some u := by
  intro j u hu
  rw [add_none, Nat.zero_add]
  rw [Go.Joins.cell_of_block (cs := #[v]) (t := t) (fr := (0, 0)) (by rw [heap_alloc, if_pos rfl])]
  simpa using hu

theorem lit_two (w : World) (v : Value) (t u : TypeId) (C : Array Value) (g : Nat) (hg : g = w.heap.size + 1) : ∀ j x, [v][j]? = some x → (((w.alloc (.cells C u)).alloc (.cells #[v] t)).drew).cell? ((Addr.mk g 0 Option.none).add j) = some x := by
  intro j x hx
  have h := lit_one (w.alloc (.cells C u)) v t j x hx
  rw [show (w.alloc (.cells C u)).heap.size = g by rw [size_alloc, hg]] at h
  exact h

theorem info_row : (Try.prog.info? 61).map (fun i => (i.zero, i.size, i.bytes)) = some (some (.slice Option.none 0 0), 1, 24) := by kernel_rfl

set_option maxRecDepth 100000 in
set_option maxHeartbeats 2000000 in
theorem few_any (a : Option Addr) (n cap : Nat) (ls : List (List Nat)) (w : World) (h : PartsB w a n ls) :
    Calls Try.prog 27 #[.slice a n cap, .int .i64 8, .int .i64 500] w fun e w' => ∃ a2 m c2 ls2, e = .returned (.slice a2 m c2) ∧ PartsS w' a2 m ls2 ∧ m ≤ 8 ∧ (∀ l ∈ ls2, l.length ≤ 500) ∧ Only (fun _ => False) w w' := by
  obtain ⟨i0, hi, hz0, hz1, hz2⟩ := info_parts info_u8
  obtain ⟨i1, ji, jz0, jz1, jz2⟩ := info_parts info_row
  have H := Lib.hid h
  have hm := h.2.1
  clear h
  go_enter Try.func27, Try.ntmps27
  go_wp2_with fail
  go_loopw [7, 8] (fun v i wr => ∃ (k : Nat) (xs : List Value) (ms : List (List Nat)), k ≤ n ∧ k ≤ 8 ∧ i = .int .i64 k ∧ Hid (ms.length = k ∧ ∀ l ∈ ms, l.length ≤ 500) ∧ Hid (HeadF w wr v xs ms)) (fun _ i _ => 8 - (intOf i).toNat)
  case atStart => exact ⟨0, [], [], by omega, by omega, rfl, Lib.hid ⟨rfl, by simp⟩, Lib.hid (headf_start w)⟩
  case round =>
    obtain ⟨k, xs, ms, hk, hk8, rfl, HM, HH⟩ := hrel
    by_cases h8 : k < n ∧ k < 8
    · obtain ⟨h8n, h88⟩ := h8
      obtain ⟨b, off, rfl, hcell⟩ := H.out.2.2.resolve_left (by omega)
      obtain ⟨a', len, cap', hcl0, hB0⟩ := hcell k h8n
      have hcl := HH.out.2.1.cell' hcl0 (fun f => f)
      have hB := hB0.only HH.out.2.1 (fun _ _ f => f)
      clear hcell hcl0 hB0
      have hcl2 := ((Only.refl (fun _ => False) wr).alloc (.cells #[] 5)).cell' hcl (fun f => f)
      generalize ls.getD k [] = r0 at *
      obtain ⟨hr, hlc, hcm, hnone⟩ := hB
      unfold maxLen at hcm
      rcases a' with _ | x
      · have hc0 := hnone rfl
        obtain rfl : cap' = 0 := hc0
        obtain rfl : len = 0 := by omega
        clear hnone hr
        have hml : ms.length ≤ 7 := by have := HM.out.1; omega
        go_wp2_with fail
        go_region_law (first | (refine step_none rfl _ _ 61 rfl 0 5 i0 1 Try.underlying61 hi (.slice (some ⟨wr.heap.size, 0, Option.none⟩) 0 0) 0 [] rfl (World.ownsRow_lit wr.drew #[] 0 (Nat.zero_le _) (by decide) rfl) rfl ?_) | (refine step_mine rfl _ _ 45 rfl 61 i1 (.slice Option.none 0 0) 1 24 Try.underlying45 ji jz0 jz1 jz2 rfl (by decide) _ ms.length xs rfl (owns_only ((((Only.refl (fun _ => False) wr).alloc (.cells #[] 5)).alloc (.cells #[.slice (some ⟨wr.heap.size, 0, Option.none⟩) 0 0] 61)).drew) HH.out.1 (fun _ _ f => f)) ⟨wr.heap.size + 1, 0, Option.none⟩ 1 1 [.slice (some ⟨wr.heap.size, 0, Option.none⟩) 0 0] rfl rfl (lit_two wr _ _ _ _ _ rfl) (by intro u hu; simp at hu; subst hu; rfl) (by unfold maxLen; omega) (by omega) ?_; intro v2 w2 hown hgrow hk2))
        all_goals
          have HN := Lib.hid (headf_next (r := []) HH.out (((Only.refl (fun _ => False) wr).drew).alloc _) ⟨rfl, by unfold maxLen; omega, by simp, .inl rfl⟩ (Nat.le_refl _) (by rw [size_alloc]; show wr.heap.size < wr.heap.size + 1; omega) hown hgrow hk2)
          have HMN : Hid ((ms ++ [[]]).length = k + 1 ∧ ∀ l ∈ ms ++ [[]], l.length ≤ 500) := Lib.hid (by
            refine ⟨by rw [List.length_append, HM.out.1]; rfl, fun l hl => ?_⟩
            rcases List.mem_append.1 hl with g | g
            · exact HM.out.2 l g
            · simp at g; subst g; simp)
          clear hown hgrow hk2 hcl hcl2
          go_wp2_with fail
          go_roundw
          case rel => exact ⟨k + 1, xs ++ [.slice (some ⟨wr.heap.size, 0, Option.none⟩) 0 0], ms ++ [[]], by omega, by omega, by go_num, HMN, HN⟩
          case measure => simp [intOf]; omega
      · obtain ⟨m, hm, hm3, hml2⟩ : ∃ m, m = min len 500 ∧ m ≤ 500 ∧ m ≤ len := ⟨_, rfl, by omega, by omega⟩
        have HR : Hid (Reads wr (some x) m (r0.take m)) := Lib.hid (hr.take m hml2)
        generalize r0.take m = l' at HR
        clear hr hnone
        have hmin : (if (500 : Int) < (len : Int) then (500 : Int) else (len : Int)) = (m : Int) := by split <;> omega
        have hmc : m ≤ cap' := by omega
        clear hm
        have hml : ms.length ≤ 7 := by have := HM.out.1; omega
        go_wp2_with fail
        go_region_law (first | (refine step_own rfl _ _ 61 rfl wr.heap.size 5 i0 (.int .u8 0) 1 1 Try.underlying61 hi hz0 hz1 hz2 rfl (by decide) (.slice (some ⟨wr.heap.size, 0, Option.none⟩) 0 0) 0 [] rfl (World.ownsRow_lit wr #[] 0 (Nat.le_refl _) (by decide) rfl) x _ _ (bv l') rfl (by rw [bv_length, HR.out.1, Nat.mul_one]) (news_of_reads (HR.out.only (((Only.refl (fun _ => False) wr).alloc _).drew) (fun _ _ f => f))) (bv_one l') (by unfold maxLen; omega) (by omega) (by rw [show ((wr.alloc (.cells #[] 5)).drew).heap.size = wr.heap.size + 1 from size_alloc _ _]; omega) ?_; intro v1 w1 hown1 hgrow1 hne1; obtain ⟨g, c1, rfl, hg, hg1, hR1, hO1⟩ := inner_facts hown1 hgrow1 hne1 HR.out.1 HR.out.2.2.1 (by omega)) | (refine step_mine rfl _ _ 45 rfl 61 i1 (.slice Option.none 0 0) 1 24 Try.underlying45 ji jz0 jz1 jz2 rfl (by decide) _ ms.length xs rfl (owns_only (hO1.alloc _) HH.out.1 (fun _ _ f => f)) ⟨w1.heap.size, 0, Option.none⟩ 1 1 [.slice (some ⟨g, 0, Option.none⟩) _ c1] rfl rfl (lit_one w1 _ _) (by intro u hu; simp at hu; subst hu; rfl) (by unfold maxLen; omega) (by omega) ?_; intro v2 w2 hown hgrow hk2))
        all_goals
          have HN := Lib.hid (headf_next (r := l') HH.out hO1 hR1 hg hg1 hown hgrow hk2)
          have HMN : Hid ((ms ++ [l']).length = k + 1 ∧ ∀ l ∈ ms ++ [l'], l.length ≤ 500) := Lib.hid (by
            refine ⟨by rw [List.length_append, HM.out.1]; rfl, fun l hl => ?_⟩
            rcases List.mem_append.1 hl with q | q
            · exact HM.out.2 l q
            · simp at q; subst q; rw [HR.out.1]; omega)
          clear hown hgrow hk2 hcl hcl2 hown1 hgrow1 hne1 hR1 hO1
          go_wp2_with fail
          go_roundw
          case rel => exact ⟨k + 1, _, ms ++ [l'], by omega, by omega, by go_num, HMN, HN⟩
          case measure => simp [intOf]; omega
    · have hform := head_form HH.out.1
      obtain ⟨a2, c2, hv⟩ := hform
      have HP : Hid (PartsS wr a2 ms.length ms) := Lib.hid (heads_parts HH.out hv)
      rw [hv]
      have hlen := HM.out.1
      have hres : ∃ a2' m c2' ls2, Ending.returned (.slice a2 ms.length c2) = .returned (.slice a2' m c2') ∧ PartsS wr a2' m ls2 ∧ m ≤ 8 ∧ (∀ l ∈ ls2, l.length ≤ 500) ∧ Only (fun _ => False) w wr := ⟨a2, ms.length, c2, ms, rfl, HP.out, by omega, HM.out.2, HH.out.2.1⟩
      have HRES := Lib.hid hres
      clear hres hv
      by_cases g1 : k < n
      · have g2 : ¬ k < 8 := fun g2 => h8 ⟨g1, g2⟩
        go_wp2_with fail
        go_ret
        exact HRES.out
      · go_wp2_with fail
        go_ret
        exact HRES.out
end Go.Proofs.Ytdeljhkombbncaa.crca
