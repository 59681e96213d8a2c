/- CodecBack's walk, the first half: what is kept, and written. -/
import Derived.Test.YtdeljhkombbncabCodBackR
namespace Go.Proofs.Ytdeljhkombbncab.codw
open Go.RowKit mem codm
set_option linter.unusedVariables false

theorem info_part3 : (Try.prog.info? 42).map (fun i => (i.zero, i.size, i.bytes)) = some (some (.agg #[.int .i64 0, .int .i64 0, .bool false, .slice none 0 0]), 4, 48) := by kernel_rfl

/-- what holds of the kept parts, the writer and the memory, at each round's head -/
def Kept (w wr : World) (vi : Value) (ps : List PR) (v : Value) : Prop :=
  wr.ownsRow 0 42 4 vi ps.length (cellsOf ps) ∧ WR wr w.heap.size v (bytesOf ps) 0 ∧ (∀ r ∈ ps, r.ok w) ∧ Only (fun _ => False) w wr ∧
  (∀ k, v.ownBlock = some k → w.heap.size < k) ∧ (∀ k, vi.ownBlock = some k → w.heap.size < k ∧ v.ownBlock ≠ some k ∧ k < wr.heap.size) ∧ (bytesOf ps).length ≤ ps.length * 320

theorem owns_lt {w : World} {base size n : Nat} {e : TypeId} {v : Value} {xs : List Value} (h : w.ownsRow base e size v n xs) : ∀ k, v.ownBlock = some k → k < w.heap.size := by
  intro k hk
  rcases h.2 with ⟨hv, _⟩ | ⟨g, cap, cur, hv, hg, hh, _⟩
  · subst hv; cases hk
  · subst hv; simp [Value.ownBlock] at hk; subst hk; exact heap_lt hh

theorem Kept.only {w wr w2 : World} {vi v : Value} {ps : List PR} (h : Kept w wr vi ps v) (ho : Only (fun _ => False) wr w2) : Kept w w2 vi ps v := by
  obtain ⟨h1, h2, h3, h4, h5, h6, h7⟩ := h
  exact ⟨owns_only ho h1 (fun _ _ f => f), h2.only ho (fun f => f) (fun _ _ f => f), h3, h4.trans ho, h5, fun k hk => ⟨(h6 k hk).1, (h6 k hk).2.1, by have := (h6 k hk).2.2; have := ho.size; omega⟩, h7⟩

/-- a part more: kept, then written -/
theorem Kept.step {w wr w2 w3 : World} {vi vi2 v v2 : Value} {ps : List PR} {r : PR} (h : Kept w wr vi ps v) (hr : r.ok w) (hown : w2.ownsRow 0 42 4 vi2 (ps.length + 1) (cellsOf ps ++ r.cells))
    (ho : Only (fun k => vi.ownBlock = some k) wr w2) (hk : ∀ k, vi2.ownBlock = some k → vi.ownBlock = some k ∨ wr.heap.size ≤ k)
    (hW : WR w3 w.heap.size v2 (bytesOf ps ++ r.pb) 0) (ho3 : Only (fun k => k = w.heap.size ∨ v.ownBlock = some k) w2 w3) (hk3 : ∀ k, v2.ownBlock = some k → v.ownBlock = some k ∨ w2.heap.size ≤ k) : Kept w w3 vi2 (ps ++ [r]) v2 := by
  obtain ⟨h1, h2, h3, h4, h5, h6, h7⟩ := h
  have hlt2 := owns_lt hown
  have hs2 := ho.size
  have hs3 := ho3.size
  have hw0 := h4.size
  have hvlt := OwnB.lt h2.own
  have hp := h2.lt
  have hsep : ∀ k, vi2.ownBlock = some k → w.heap.size < k ∧ v.ownBlock ≠ some k := by
    intro k hk'
    rcases hk k hk' with h | h
    · exact ⟨(h6 k h).1, (h6 k h).2.1⟩
    · exact ⟨by omega, fun f => by have := hvlt k f; omega⟩
  refine ⟨?_, ?_, ?_, ?_, ?_, ?_, ?_⟩
  · have h8 := owns_only ho3 hown (fun k hk' hs => by
      have h9 := hsep k hk'
      rcases hs with hs | hs
      · omega
      · exact h9.2 hs)
    rw [List.length_append, cellsOf_append]
    simpa [cellsOf] using h8
  · rw [bytesOf_append]; simpa [bytesOf] using hW
  · intro q hq
    rcases List.mem_append.1 hq with h | h
    · exact h3 q h
    · simp at h; subst h; exact hr
  · have a : Only (fun _ => False) w w2 := h4.then ho (fun i hi e => by have := (h6 i e).1; omega)
    exact a.then ho3 (fun i hi e => by
      rcases e with e | e
      · omega
      · have := h5 i e; omega)
  · intro k hk'
    rcases hk3 k hk' with h | h
    · exact h5 k h
    · omega
  · intro k hk'
    refine ⟨(hsep k hk').1, fun f => ?_, by have := hlt2 k hk'; omega⟩
    rcases hk3 k f with h | h
    · exact (hsep k hk').2 h
    · have := hlt2 k hk'; omega
  · rw [bytesOf_append, List.length_append, List.length_append]
    have : (bytesOf [r]).length ≤ 320 := by
      have := pb_length r.k r.n r.y r.l
      simpa [bytesOf, PR.pb] using this
    simp at this ⊢
    omega

theorem kept_start (w : World) (t : TypeId) : Kept w (w.alloc (.cells #[.slice none 0 0, .int .i64 0] t)) (.slice none 0 0) [] (.slice none 0 0) := by
  refine ⟨World.ownsRow_nil _ _ _ _, new_writer w _, ?_, (Only.refl _ w).alloc _, ?_, ?_, ?_⟩
  · intro r hr; simp at hr
  · intro k hk; cases hk
  · intro k hk; cases hk
  · simp [bytesOf]

/-- the literal's own cells -/
theorem lit_cells (w : World) (r : PR) (t : TypeId) : ∀ j u, r.cells[j]? = some u → (w.alloc (.cells #[.int .i64 r.k, .int .i64 r.n, .bool r.y, .slice r.a r.len r.cap] t)).cell? ((Addr.mk w.heap.size 0 none).add j) = some u := by
  intro j u hu
  rw [add_none, Nat.zero_add]
  rw [Go.Joins.cell_of_block (cs := #[.int .i64 r.k, .int .i64 r.n, .bool r.y, .slice r.a r.len r.cap]) (t := t) (fr := (0, 0)) (by rw [heap_alloc, if_pos rfl])]
  simpa [PR.cells] using hu

set_option maxRecDepth 100000 in
set_option maxHeartbeats 4000000 in
theorem back_walk (ao : Option Addr) (len cap : Nat) (w : World) (hlc : len ≤ 9223372036854775807)
    (h : len = 0 ∨ ∃ b off, ao = some ⟨b, off, none⟩ ∧ ∀ i, i < len → ∃ k n y a' len' cap' l', PartAt w b (off + i * 4) k n y a' len' cap' l') :
    Calls Try.prog 7 #[.slice ao len cap] w fun en w' => en = .returned (.bool true) ∧ Below w.heap.size w w' := by
  have H := Lib.hid h
  clear h
  obtain ⟨i0, hi, hz0, hz1, hz2⟩ := info_parts info_part3
  have HI := Lib.hid (And.intro hi (And.intro hz0 (And.intro hz1 hz2)))
  clear hi hz0 hz1 hz2
  go_enter Try.func7, Try.ntmps7
  go_wp2_with fail
  go_loopw [4, 5] (fun s i wr => ∃ (j : Nat) (ps : List PR) (v vi : Value), vi = s ∧ i = .int .i64 (j : Int) ∧ j ≤ len ∧ j ≤ 20 ∧ ps.length ≤ j ∧ Hid (Kept w wr vi ps v)) (fun _ i _ => 20 - (intOf i).toNat)
  case atStart => exact ⟨0, [], .slice none 0 0, .slice none 0 0, rfl, rfl, by omega, by omega, by simp, Lib.hid (kept_start w _)⟩
  case round =>
    obtain ⟨j, ps, v, vi, rfl, rfl, hj, hj20, hpl, HK⟩ := hrel
    by_cases hend : j < len ∧ j < 20
    · obtain ⟨hj1, hj2⟩ := hend
      obtain ⟨b, off, rfl, hparts⟩ := H.out.resolve_left (by omega)
      obtain ⟨k, n, y, a', len', cap', l', hp⟩ := hparts j hj1
      have HP := Lib.hid hp
      have hp1 := hp.only HK.out.2.2.2.1
      obtain ⟨d0, d1, d2, d3, hn, hB⟩ := hp1
      clear hparts hp hB
      by_cases hk : k % 4 = 0
      · by_cases hn0 : n < 0
        · clear HP
          have HK0 := Lib.hid hk
          clear hk
          go_wp2_with fail
          refine (kind_any k n y a' len' cap' _).mono ?_
          rintro e1 w1 ⟨rfl, hO1⟩
          rw [HK0.out]
          have q1 := hO1.cell' d1 (fun f => f)
          have HK1 := Lib.hid (HK.out.only hO1)
          clear hO1 HK d0 d1 d2 d3
          go_wp2_with fail
          go_roundw
          case rel => exact ⟨j + 1, ps, v, vi, rfl, by go_num, by omega, by omega, by omega, HK1⟩
          case measure => simp [intOf]; omega
        · have HPE : Hid (perr k n 0 = 0) := Lib.hid (by unfold perr; rw [if_neg (fun f => hn0 f.2)])
          have HR : Hid (PR.ok w ⟨k, n, y, a', len', cap', l'⟩) := Lib.hid ⟨hn, HP.out.2.2.2.2.2, fun _ => by show 0 ≤ n; omega⟩
          have HK0 := Lib.hid hk
          clear hk
          go_wp2_with fail
          refine (kind_any k n y a' len' cap' _).mono ?_
          rintro e1 w1 ⟨rfl, hO1⟩
          rw [HK0.out]
          have q1 := hO1.cell' d1 (fun f => f)
          have q0 := hO1.cell' d0 (fun f => f)
          have q2 := hO1.cell' d2 (fun f => f)
          have q3 := hO1.cell' d3 (fun f => f)
          have HK1 := Lib.hid (HK.out.only hO1)
          clear hO1 HK d0 d1 d2 d3
          go_wp2_with (first | (at_builtin; refine append_mine rfl _ _ 32 rfl 42 i0 (.agg #[.int .i64 0, .int .i64 0, .bool false, .slice none 0 0]) 4 48 Try.underlying32 HI.out.1 HI.out.2.1 HI.out.2.2.1 HI.out.2.2.2 rfl (by decide) vi ps.length (cellsOf ps) rfl (owns_only (S := fun _ => False) ((Only.refl _ w1).alloc _) HK1.out.1 (fun _ _ f => f)) ⟨w1.heap.size, 0, none⟩ 1 1 (PR.cells ⟨k, n, y, a', len', cap', l'⟩) rfl rfl ?e1 ?e2 ?e3 ?e4 ?_))
          case e1 => exact lit_cells w1 ⟨k, n, y, a', len', cap', l'⟩ _
          case e2 => intro u hu; exact cellsOf_one [⟨k, n, y, a', len', cap', l'⟩] u (by simpa [cellsOf] using hu)
          case e3 => unfold maxLen; omega
          case e4 => omega
          intro vi2 w2 hown hgrow hkk
          have ho12 : Only (fun k => vi.ownBlock = some k) w1 w2 := ((Only.refl (fun k => vi.ownBlock = some k) w1).alloc _).then (Only.of_grown hgrow) (fun i _ hi' => hi')
          have ho02 : Only (fun _ => False) w w2 := HK1.out.2.2.2.1.then ho12 (fun i hi' e => by have := (HK1.out.2.2.2.2.2.1 i e).1; omega)
          have hk12 : ∀ k, vi2.ownBlock = some k → vi.ownBlock = some k ∨ w1.heap.size ≤ k := fun k hk' => by
            rcases hkk k hk' with h | h
            · exact .inl h
            · exact .inr (by omega)
          obtain ⟨s0, s1, s2, s3, sn, sB⟩ := HP.out.only ho02
          have hW2 := HK1.out.2.1.only ho12 (fun e => by have := (HK1.out.2.2.2.2.2.1 _ e).1; omega) (fun k hk' e => (HK1.out.2.2.2.2.2.1 k e).2.1 hk')
          have HW2 := Lib.hid hW2
          have HO12 := Lib.hid ho12
          have HK12 := Lib.hid hk12
          have HOWN := Lib.hid hown
          have SB := Lib.hid sB
          have SN := Lib.hid sn
          clear hown hgrow hkk ho12 ho02 hk12 hW2 sB q0 q1 q2 q3
          go_wp2_with fail
          refine (write_any w.heap.size v (bytesOf ps) 0 k n y a' len' cap' l' _ HW2.out SB.out SN.out (by have := HK1.out.2.2.2.2.2.2; omega)).mono ?_
          rintro e1 w3 ⟨rfl, v2, hW3, hO3, hK3⟩
          rw [HPE.out] at hW3
          have HK3 := Lib.hid (Kept.step HK1.out HR.out HOWN.out HO12.out HK12.out hW3 hO3 hK3)
          clear hW3 hO3 hK3 HK1 HOWN HO12 HK12 HW2 s0 s1 s2 s3
          go_wp2_with fail
          go_roundw
          case rel => exact ⟨j + 1, ps ++ [⟨k, n, y, a', len', cap', l'⟩], v2, vi2, rfl, by go_num, by omega, by omega, by simp; omega, HK3⟩
          case measure => simp [intOf]; omega
      · have hkb : (k % 4 != 0) = true := by rw [bne_iff_ne]; exact hk
        have HPE : Hid (perr k n 0 = 0) := Lib.hid (by unfold perr; rw [if_neg (fun f => hk f.1)])
        have HR : Hid (PR.ok w ⟨k, n, y, a', len', cap', l'⟩) := Lib.hid ⟨hn, HP.out.2.2.2.2.2, fun f => absurd f hk⟩
        clear hk
        go_wp2_with fail
        refine (kind_any k n y a' len' cap' _).mono ?_
        rintro e1 w1 ⟨rfl, hO1⟩
        have q1 := hO1.cell' d1 (fun f => f)
        have q0 := hO1.cell' d0 (fun f => f)
        have q2 := hO1.cell' d2 (fun f => f)
        have q3 := hO1.cell' d3 (fun f => f)
        have HK1 := Lib.hid (HK.out.only hO1)
        clear hO1 HK d0 d1 d2 d3
        go_wp2_with (first | (at_builtin; refine append_mine rfl _ _ 32 rfl 42 i0 (.agg #[.int .i64 0, .int .i64 0, .bool false, .slice none 0 0]) 4 48 Try.underlying32 HI.out.1 HI.out.2.1 HI.out.2.2.1 HI.out.2.2.2 rfl (by decide) vi ps.length (cellsOf ps) rfl (owns_only (S := fun _ => False) ((Only.refl _ w1).alloc _) HK1.out.1 (fun _ _ f => f)) ⟨w1.heap.size, 0, none⟩ 1 1 (PR.cells ⟨k, n, y, a', len', cap', l'⟩) rfl rfl ?c1 ?c2 ?c3 ?c4 ?_))
        case c1 => exact lit_cells w1 ⟨k, n, y, a', len', cap', l'⟩ _
        case c2 => intro u hu; exact cellsOf_one [⟨k, n, y, a', len', cap', l'⟩] u (by simpa [cellsOf] using hu)
        case c3 => unfold maxLen; omega
        case c4 => omega
        intro vi2 w2 hown hgrow hkk
        have ho12 : Only (fun k => vi.ownBlock = some k) w1 w2 := ((Only.refl (fun k => vi.ownBlock = some k) w1).alloc _).then (Only.of_grown hgrow) (fun i _ hi' => hi')
        have ho02 : Only (fun _ => False) w w2 := HK1.out.2.2.2.1.then ho12 (fun i hi' e => by have := (HK1.out.2.2.2.2.2.1 i e).1; omega)
        have hk12 : ∀ k, vi2.ownBlock = some k → vi.ownBlock = some k ∨ w1.heap.size ≤ k := fun k hk' => by
          rcases hkk k hk' with h | h
          · exact .inl h
          · exact .inr (by omega)
        obtain ⟨s0, s1, s2, s3, sn, sB⟩ := HP.out.only ho02
        have hW2 := HK1.out.2.1.only ho12 (fun e => by have := (HK1.out.2.2.2.2.2.1 _ e).1; omega) (fun k hk' e => (HK1.out.2.2.2.2.2.1 k e).2.1 hk')
        have HW2 := Lib.hid hW2
        have HO12 := Lib.hid ho12
        have HK12 := Lib.hid hk12
        have HOWN := Lib.hid hown
        have SB := Lib.hid sB
        have SN := Lib.hid sn
        clear hown hgrow hkk ho12 ho02 hk12 hW2 sB q0 q1 q2 q3
        go_wp2_with fail
        refine (write_any w.heap.size v (bytesOf ps) 0 k n y a' len' cap' l' _ HW2.out SB.out SN.out (by have := HK1.out.2.2.2.2.2.2; omega)).mono ?_
        rintro e1 w3 ⟨rfl, v2, hW3, hO3, hK3⟩
        rw [HPE.out] at hW3
        have HK3 := Lib.hid (Kept.step HK1.out HR.out HOWN.out HO12.out HK12.out hW3 hO3 hK3)
        clear hW3 hO3 hK3 HK1 HOWN HO12 HK12 HW2 s0 s1 s2 s3
        go_wp2_with fail
        go_roundw
        case rel => exact ⟨j + 1, ps ++ [⟨k, n, y, a', len', cap', l'⟩], v2, vi2, rfl, by go_num, by omega, by omega, by simp; omega, HK3⟩
        case measure => simp [intOf]; omega
    · have hvi : ∃ ai ci, vi = .slice ai ps.length ci := by
        rcases HK.out.1.2 with ⟨h1, h2⟩ | ⟨g, c, _, h1, _⟩
        · exact ⟨none, 0, by rw [h1, h2]⟩
        · exact ⟨_, _, h1⟩
      obtain ⟨ai, ci, hvi⟩ := hvi
      by_cases hjl : j < len
      all_goals
        rw [hvi]
        rw [hvi] at HK
        clear hvi
        go_wp2_with fail
        refine (wbytes_any w.heap.size v _ 0 _ HK.out.2.1 (by have := HK.out.2.2.2.2.2.2; omega)).mono ?_
        rintro e1 w1 ⟨vb, rfl, hvb, hO1, hkb⟩
        have V1 := Lib.hid hvb
        have HK1 := Lib.hid (HK.out.only hO1)
        have hs1 := hO1.size
        clear hvb hO1 hkb HK
        go_wp2_with fail
        refine (codes_any _).mono ?_
        rintro e1 w2 ⟨rfl, hb2⟩
        have hO2 := Only.of_below hb2
        have HK2 := Lib.hid (HK1.out.only hO2)
        obtain ⟨ab, nb, cb, hvb, hB2⟩ := bytes_of_own (V1.out.only hO2 (fun _ _ f => f))
        rw [hvb]
        have HB2 := Lib.hid hB2
        clear hb2 hO2 hvb hB2 HK1 V1 hs1
        go_wp2_with fail
        refine (read_any ab nb cb (bytesOf ps) _ HB2.out (by have h1 := HK2.out.2.2.2.2.2.2; have h2 := HB2.out.1.1; omega)).mono ?_
        rintro e1 w3 ⟨pr, a3, n3, c3, rfl, hR3, hO3, hp3, _⟩
        have HR3 := Lib.hid hR3
        have O3 := Lib.hid (HK2.out.2.2.2.1.trans hO3)
        have ROW := Lib.hid (owns_only hO3 HK2.out.1 (fun _ _ f => f))
        have OKS := Lib.hid HK2.out.2.2.1
        have HLEN := Lib.hid HK2.out.2.2.2.2.2.2
        have HG : Hid (w.heap.size ≤ pr ∧ ∀ k, (Value.slice ai ps.length ci).ownBlock = some k → k ≠ pr) := Lib.hid ⟨by have := HK2.out.2.2.2.1.size; omega, fun k hk e => by have := (HK2.out.2.2.2.2.2.1 k hk).2.2; omega⟩
        clear hR3 hO3 hp3 HK2 HB2
        go_wp2_with fail
        go_loopw [9] (fun i wr => ∃ (q : Nat) (a : Option Addr) (n c : Nat), i = .int .i64 (q : Int) ∧ q ≤ ps.length ∧ Hid (RD wr pr a n c (bytesOf (ps.drop q)) 0) ∧ Hid (Only (fun _ => False) w wr) ∧ Hid (wr.ownsRow 0 42 4 (.slice ai ps.length ci) ps.length (cellsOf ps))) (fun i _ => ps.length - (intOf i).toNat)
        case atStart => exact ⟨0, a3, n3, c3, rfl, by omega, HR3, O3, ROW⟩
        case round =>
          clear HR3 O3 ROW
          obtain ⟨q, a, m, c, rfl, hq, HR, HO, HROW⟩ := hrel
          by_cases hqe : q < ps.length
          · obtain ⟨r, hr⟩ : ∃ r, ps[q]? = some r := ⟨_, List.getElem?_eq_getElem hqe⟩
            have hrok := OKS.out r (List.mem_of_getElem? hr)
            have hdrop : bytesOf (ps.drop q) = r.pb ++ bytesOf (ps.drop (q + 1)) := by
              rw [List.drop_eq_getElem_cons hqe]
              have : ps[q] = r := by rw [List.getElem?_eq_getElem hqe] at hr; simpa using hr
              rw [this]; rfl
            obtain ⟨gi, rfl⟩ : ∃ gi, ai = some ⟨gi, 0, none⟩ := by
              obtain ⟨g, cc, hv, _⟩ := owns_form HROW.out (by omega)
              simp at hv
              exact ⟨g, hv.1⟩
            have hcell : ∀ jj, jj < 4 → wr.cell? ⟨gi, q * 4 + jj, none⟩ = r.cells[jj]? := fun jj hjj => by
              rw [HROW.out.cellAt (q * 4 + jj) (by omega), cellsOf_get ps q jj r hr hjj]
            obtain ⟨k, n, y, a', len', cap', l'⟩ := r
            have x0 : wr.cell? ⟨gi, q * 4, none⟩ = some (.int .i64 k) := hcell 0 (by omega)
            have x1 : wr.cell? ⟨gi, q * 4 + 1, none⟩ = some (.int .i64 n) := hcell 1 (by omega)
            have x2 : wr.cell? ⟨gi, q * 4 + 2, none⟩ = some (.bool y) := hcell 2 (by omega)
            have x3 : wr.cell? ⟨gi, q * 4 + 3, none⟩ = some (.slice a' len' cap') := hcell 3 (by omega)
            have HD := Lib.hid hdrop
            have HOK := Lib.hid hrok
            have HRR := Lib.hid hr
            clear hcell hdrop hrok hr
            have HKB := Lib.hid (show wr.heap.size < (wr.alloc (.cells #[.int .i64 k, .int .i64 n, .bool y, .slice a' len' cap'] 42)).heap.size by rw [size_alloc]; omega)
            have hpn : wr.heap.size ≠ pr := fun e => by have h1 : pr < wr.heap.size := World.block_lt_of_cell? wr _ HR.out.c0; omega
            have HPN := Lib.hid hpn
            go_wp2_with fail
            refine (kind_any k n y a' len' cap' _).mono ?_
            rintro e1 w5 ⟨rfl, hO5⟩
            have oA : Only (fun _ => False) wr (wr.alloc (.cells #[.int .i64 k, .int .i64 n, .bool y, .slice a' len' cap'] 42)) := (Only.refl _ wr).alloc _
            have hO5d := (oA.trans hO5).drew
            have b0 : ∀ j, (wr.alloc (.cells #[.int .i64 k, .int .i64 n, .bool y, .slice a' len' cap'] 42)).cell? ⟨wr.heap.size, j, none⟩ = (#[Value.int .i64 k, .int .i64 n, .bool y, .slice a' len' cap'] : Array Value)[j]? := fun j => by simp
            have z0 := hO5.cell' (b0 0) (fun f => f)
            have z1 := hO5.cell' (b0 1) (fun f => f)
            have z2 := hO5.cell' (b0 2) (fun f => f)
            have z3 := hO5.cell' (b0 3) (fun f => f)
            have H5 := Lib.hid (HR.out.only hO5d (fun f => f) (fun _ _ f => f))
            have OK5 := Lib.hid (HOK.out.2.1.only (HO.out.trans hO5d) (fun _ _ f => f))
            have O5 := Lib.hid hO5d
            clear hO5 hO5d oA b0 x0 x1 x2 x3 hpn HKB
            rw [HD.out] at H5
            rcases (by omega : k % 4 = 0 ∨ k % 4 = 1 ∨ k % 4 = 2 ∨ k % 4 = 3) with hk | hk | hk | hk
            · have hn0 := HOK.out.2.2 hk
              have hnb := HOK.out.1
              have hp : PR.pb ⟨k, n, y, a', len', cap', l'⟩ = enc n.toNat := by show pb k n y l' = _; unfold pb rucount; rw [if_pos hk, if_neg (by show ¬ n < 0; exact Int.not_lt.2 hn0)]
              rw [hp] at H5
              rw [hk]
              have HN0 : Hid (0 ≤ n) := Lib.hid hn0
              have HNB : Hid (n ≤ 9223372036854775807) := Lib.hid hnb.2
              clear hp hk hn0 hnb
              go_wp2_with fail
              go_region_with ((go_at_call 19; refine (uint_back pr _ _ _ n _ _ HN0.out HNB.out H5.out).mono ?_; rintro e1 w6 ⟨rfl, a6, n6, c6, hR6, hO6, hL6⟩; have z16 := hO6.cell' z1 HPN.out))
              all_goals
                have HN := Lib.hid (back_next HO.out O5.out hO6 HG.out.1 HROW.out HG.out.2)
                have HR6 := Lib.hid hR6
                clear hR6 hO6 hL6 z0 z1 z2 z3
                go_wp2_with fail
                go_roundw
                case rel => exact ⟨q + 1, a6, n6, c6, by go_num, by omega, HR6, Lib.hid HN.out.1, Lib.hid HN.out.2⟩
                case measure => simp [intOf]; omega
            · have hnb := HOK.out.1
              have hp : PR.pb ⟨k, n, y, a', len', cap', l'⟩ = enc (zig n) := by show pb k n y l' = _; unfold pb; simp [hk]
              rw [hp] at H5
              rw [hk]
              have HNB := Lib.hid hnb
              clear hp hk hnb
              go_wp2_with fail
              go_region_with ((go_at_call 20; refine (int_back pr _ _ _ n _ _ HNB.out H5.out).mono ?_; rintro e1 w6 ⟨rfl, a6, n6, c6, hR6, hO6, hL6⟩; have z16 := hO6.cell' z1 HPN.out))
              all_goals
                have HN := Lib.hid (back_next HO.out O5.out hO6 HG.out.1 HROW.out HG.out.2)
                have HR6 := Lib.hid hR6
                clear hR6 hO6 hL6 z0 z1 z2 z3
                go_wp2_with fail
                go_roundw
                case rel => exact ⟨q + 1, a6, n6, c6, by go_num, by omega, HR6, Lib.hid HN.out.1, Lib.hid HN.out.2⟩
                case measure => simp [intOf]; omega
            · have hp : PR.pb ⟨k, n, y, a', len', cap', l'⟩ = [if y then 1 else 0] := by show pb k n y l' = _; unfold pb; simp [hk]
              rw [hp] at H5
              rw [hk]
              clear hp hk
              go_wp2_with fail
              go_region_with ((go_at_call 21; refine (flag_back' pr _ _ _ y _ _ H5.out).mono ?_; rintro e1 w6 ⟨rfl, a6, n6, c6, hR6, hO6, hL6⟩; have z26 := hO6.cell' z2 HPN.out))
              all_goals
                have HN := Lib.hid (back_next HO.out O5.out hO6 HG.out.1 HROW.out HG.out.2)
                have HR6 := Lib.hid hR6
                clear hR6 hO6 hL6 z0 z1 z2 z3
                go_wp2_with fail
                go_roundw
                case rel => exact ⟨q + 1, a6, n6, c6, by go_num, by omega, HR6, Lib.hid HN.out.1, Lib.hid HN.out.2⟩
                case measure => simp [intOf]; omega
            · have hp : PR.pb ⟨k, n, y, a', len', cap', l'⟩ = enc (l'.take 300).length ++ l'.take 300 := by show pb k n y l' = _; unfold pb; simp [hk]
              rw [hp] at H5
              rw [hk]
              have HTL : Hid ((l'.take 300).length ≤ 300) := Lib.hid (by simp; omega)
              have HML : Hid (m ≤ 1000000) := Lib.hid (by
                have h1 := HR.out.reads.1
                have h2 := HLEN.out
                have h3 : (bytesOf (ps.drop q)).length ≤ (bytesOf ps).length := by
                  have h4 : ps = ps.take q ++ ps.drop q := (List.take_append_drop q ps).symm
                  conv => rhs; rw [h4, bytesOf_append, List.length_append]
                  omega
                omega)
              clear hp hk
              obtain ⟨T, hT⟩ : ∃ T, l'.take 300 = T := ⟨_, rfl⟩
              obtain ⟨nT, hnT⟩ : ∃ nT, T.length = nT := ⟨_, rfl⟩
              rw [hT] at H5 HTL
              have HT := Lib.hid hT
              have HNT := Lib.hid hnT
              clear hT hnT
              obtain ⟨S, HS⟩ : ∃ S, Hid (strN T = S) := ⟨_, Lib.hid rfl⟩
              go_wp2_with fail
              go_region_with (first | (go_at_call 22; refine (text_back pr _ _ _ T _ _ H5.out HTL.out HML.out).mono ?_; rintro e1 w6 ⟨v6, rfl, hv6, hk6, a6, n6, c6, hR6, hO6, hL6⟩; obtain ⟨av, nv, cv, hvv, hBv⟩ := bytes_of_own hv6; rw [hvv]; have hcv6 := conv_reads hBv.1 cv; rw [HS.out] at hcv6; have y0 := hO6.cell' z0 HPN.out; have y1 := hO6.cell' z1 HPN.out; have y2 := hO6.cell' z2 HPN.out; have y3 := hO6.cell' z3 HPN.out; have hB6 : Bytes w6 a' len' cap' l' := HOK.out.2.1.only (back_next HO.out O5.out hO6 HG.out.1 HROW.out HG.out.2).1 (fun _ _ f => f)) | (go_at_call 23; refine (text_any' k n y a' len' cap' l' T nT _ hB6 HT.out HNT.out).mono ?_; rintro e1 w7 ⟨g7, c7, rfl, hG7, hO7⟩; have hcv7 := conv_reads hG7 c7; rw [HS.out] at hcv7; have hcv67 := conv_reads (hBv.1.only hO7 (fun _ _ f => f)) cv; rw [HS.out] at hcv67))
              all_goals
                have HN := Lib.hid (back_next HO.out O5.out hO6 HG.out.1 HROW.out HG.out.2)
                have HR6 := Lib.hid (hR6.only hO7 (fun f => f) (fun _ _ f => f))
                have HO7 := Lib.hid hO7
                clear hR6 hO6 hL6 z0 z1 z2 z3 y0 y1 y2 y3 hcv6 hcv7 hcv67 hO7 hG7 hB6 hBv hv6 hk6
                go_wp2_with fail
                go_roundw
                case rel => exact ⟨q + 1, a6, n6, c6, by go_num, by omega, HR6, Lib.hid (HN.out.1.trans HO7.out), Lib.hid (owns_only HO7.out HN.out.2 (fun _ _ f => f))⟩
                case measure => simp [intOf]; omega
          · have hqe2 : q = ps.length := by omega
            subst hqe2
            rw [List.drop_length] at HR
            have HRR := Lib.hid HR.out
            have he : Hid (rend (bytesOf []) 0 = 0) := Lib.hid rfl
            go_wp2_with fail
            refine (end_any pr _ _ _ _ _ _ HRR.out).mono ?_
            rintro e1 w5 ⟨rfl, rfl⟩
            rw [he.out]
            go_wp2_with fail
            refine (left_any pr _ _ _ _ _ _ HRR.out).mono ?_
            rintro e1 w5 ⟨rfl, rfl⟩
            go_wp2_with fail
            go_ret
            exact ⟨rfl, HO.out.none⟩
end Go.Proofs.Ytdeljhkombbncab.codw
