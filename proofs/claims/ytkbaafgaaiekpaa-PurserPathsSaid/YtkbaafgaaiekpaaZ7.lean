/- Several texts together: PuI, TrEp, PuQ, PuR, PuS. -/
import Derived.Test.YtkbaafgaaiekpaaZ3
import Derived.Test.YtkbaafgaaiekpaaOpU
import Derived.Deep.CutRange
import Derived.Deep.CutBlock
import Derived.Test.YtkbaafgaaiekpaaTrE
import Derived.Test.YtkbaafgaaiekpaaZ6
import Derived.Test.YtkbaafgaaiekpaaZB
namespace Go.Proofs.Ytkbaafgaaiekpaa.puw
open Go.RowKit mem
set_option linter.unusedVariables false

/-- two purses, apart, and the slices of a path and of its limits -/
def Tw (base gP gL p q : Nat) (Ap Aq : List fnd.Ac) (n : Nat) (w : World) : Prop := ∃ (Sp Sq : Nat → Prop) (b1 j1 b2 j2 : Nat) (C1 C2 : AcC → Option (List Int)) (L1 L2 : List jnw.Ps), Pv Sp w p b1 j1 Ap n 0 C1 L1 ∧ Pv Sq w q b2 j2 Aq n 0 C2 L2 ∧ (∀ k, Sp k → base ≤ k ∧ ¬ Sq k ∧ k ≠ gP ∧ k ≠ gL) ∧ (∀ k, Sq k → base ≤ k ∧ k ≠ gP ∧ k ≠ gL) ∧ ReadsI w (some ⟨gP, 0, none⟩) 2 [1, 2] ∧ ReadsI w (some ⟨gL, 0, none⟩) 2 [-1, -1]
theorem Tw.symm {base gP gL p q : Nat} {Ap Aq : List fnd.Ac} {n : Nat} {w : World} (h : Tw base gP gL p q Ap Aq n w) : Tw base gP gL q p Aq Ap n w := by
  obtain ⟨Sp, Sq, b1, j1, b2, j2, C1, C2, L1, L2, h1, h2, h3, h4, h5, h6⟩ := h
  exact ⟨Sq, Sp, b2, j2, b1, j1, C2, C1, L2, L1, h2, h1, fun k hk => ⟨(h4 k hk).1, fun s => (h3 k s).2.1 hk, (h4 k hk).2⟩, fun k hk => ⟨(h3 k hk).1, (h3 k hk).2.2⟩, h5, h6⟩
theorem Tw.quiet {base gP gL p q : Nat} {Ap Aq : List fnd.Ac} {n : Nat} {w w' : World} (h : Tw base gP gL p q Ap Aq n w) (ho : Only (fun _ => False) w w') : Tw base gP gL p q Ap Aq n w' := by
  obtain ⟨Sp, Sq, b1, j1, b2, j2, C1, C2, L1, L2, h1, h2, h3, h4, h5, h6⟩ := h
  exact ⟨Sp, Sq, b1, j1, b2, j2, C1, C2, L1, L2, h1.quiet ho, h2.quiet ho, h3, h4, h5.only ho (fun _ _ f => f), h6.only ho (fun _ _ f => f)⟩
theorem reads_lt {w : World} {g n : Nat} {l : List Int} (h : ReadsI w (some ⟨g, 0, none⟩) n l) (hn : 0 < n) : g < w.heap.size := by
  obtain ⟨b, off, e, hc⟩ := h.2.2.2.resolve_left (by omega)
  injection e with e
  injection e with e1 e2
  subst e1
  exact World.block_lt_of_cell? w _ (hc 0 hn)
/-- what a move of the first answers, and leaves -/
def TwR (base gP gL p q : Nat) (A' Aq : List fnd.Ac) (E : Int) (n : Nat) (w : World) (e : Ending) (w' : World) : Prop := e = .returned (.int .i64 E) ∧ Only (fun x => base ≤ x) w w' ∧ Tw base gP gL p q A' Aq (n + 1) w'
theorem tw_step {base gP gL p q : Nat} {Sp Sq : Nat → Prop} {b1 j1 b2 j2 : Nat} {A' Aq : List fnd.Ac} {C1 C2 : AcC → Option (List Int)} {L1 L2 : List jnw.Ps} {n : Nat} {w w' : World} {kind m gr E : Int} {path : List Int} {e : Ending} (hb : base ≤ w.heap.size) (h2 : Pv Sq w q b2 j2 Aq n 0 C2 L2) (h3 : ∀ k, Sp k → base ≤ k ∧ ¬ Sq k ∧ k ≠ gP ∧ k ≠ gL) (h4 : ∀ k, Sq k → base ≤ k ∧ k ≠ gP ∧ k ≠ gL) (h5 : ReadsI w (some ⟨gP, 0, none⟩) 2 [1, 2]) (h6 : ReadsI w (some ⟨gL, 0, none⟩) 2 [-1, -1]) (h : PvR Sp w p b1 j1 n 0 C1 L1 kind m gr path A' E e w') : TwR base gP gL p q A' Aq E n w e w' := by
  obtain ⟨r1, r2, S', C', L', r3, r4, -⟩ := h
  have l5 := reads_lt h5 (by omega)
  have l6 := reads_lt h6 (by omega)
  refine ⟨r1, r2.mono (fun k _ s => (h3 k s).1), S', Sq, b1, j1, b2, j2, C', C2, L', L2, r4, (h2.only r2 (fun k a b => (h3 k b).2.1 a)).up (by omega), fun k hk => ?_, h4, h5.only r2 (fun x e s => by injection e with e; rw [← e] at s; exact (h3 _ s).2.2.1 rfl), h6.only r2 (fun x e s => by injection e with e; rw [← e] at s; exact (h3 _ s).2.2.2 rfl)⟩
  rcases r3 k hk with s | s
  · exact h3 k s
  · exact ⟨by omega, fun s2 => by have := h2.lt k s2; omega, by omega, by omega⟩
section
variable {base gP gL p q : Nat} {Ap Aq : List fnd.Ac} {n : Nat} {w : World}
theorem Tw.top (h : Tw base gP gL p q Ap Aq n w) (hb : base ≤ w.heap.size) (hn : n ≤ 126) (k x : Int) (hk : entw.InI k) : Calls Try.prog 8 #[.pointer (some ⟨p, 0, none⟩), .int .i64 k, .int .i64 x] w (TwR base gP gL p q (fnd.topA Ap k x) Aq (fnd.topE Ap k x) n w) := by
  obtain ⟨Sp, Sq, b1, j1, b2, j2, C1, C2, L1, L2, h1, h2, h3, h4, h5, h6⟩ := h
  exact (h1.top hn k x hk).mono (fun e w' hm => tw_step hb h2 h3 h4 h5 h6 hm)
theorem Tw.hold (h : Tw base gP gL p q Ap Aq n w) (hb : base ≤ w.heap.size) (hn : n ≤ 126) (x : Int) : Calls Try.prog 13 #[.pointer (some ⟨p, 0, none⟩), .slice (some ⟨gP, 0, none⟩) 2 2, .slice (some ⟨gL, 0, none⟩) 2 2, .int .i64 x] w (TwR base gP gL p q (fnd.holdA Ap [1, 2] [-1, -1] x) Aq (fnd.holdE Ap [1, 2] [-1, -1] x) n w) := by
  obtain ⟨Sp, Sq, b1, j1, b2, j2, C1, C2, L1, L2, h1, h2, h3, h4, h5, h6⟩ := h
  exact (h1.hold hn (some ⟨gP, 0, none⟩) 2 2 [1, 2] (some ⟨gL, 0, none⟩) 2 2 [-1, -1] x h5 (by omega) (by omega) h6 (fun y e s => by injection e with e; rw [← e] at s; exact (h3 _ s).2.2.1 rfl)).mono (fun e w' hm => tw_step hb h2 h3 h4 h5 h6 hm)
theorem Tw.rel (h : Tw base gP gL p q Ap Aq n w) (hb : base ≤ w.heap.size) (hn : n ≤ 126) (x : Int) : Calls Try.prog 15 #[.pointer (some ⟨p, 0, none⟩), .slice (some ⟨gP, 0, none⟩) 2 2, .int .i64 x] w (TwR base gP gL p q (fnd.shA Ap [1, 2] x (-x) 0) Aq (fnd.shE Ap [1, 2] x (-x) 0) n w) := by
  obtain ⟨Sp, Sq, b1, j1, b2, j2, C1, C2, L1, L2, h1, h2, h3, h4, h5, h6⟩ := h
  exact (h1.rel hn (some ⟨gP, 0, none⟩) 2 2 [1, 2] x h5 (by omega) (by omega) (fun y e s => by injection e with e; rw [← e] at s; exact (h3 _ s).2.2.1 rfl)).mono (fun e w' hm => tw_step hb h2 h3 h4 h5 h6 hm)
theorem Tw.com (h : Tw base gP gL p q Ap Aq n w) (hb : base ≤ w.heap.size) (hn : n ≤ 126) (x gr : Int) (hg : 1 ≤ gr ∧ gr ≤ 8) : Calls Try.prog 14 #[.pointer (some ⟨p, 0, none⟩), .slice (some ⟨gP, 0, none⟩) 2 2, .int .i64 x, .int .i64 gr] w (TwR base gP gL p q (fnd.shA Ap [1, 2] x (-x) x) Aq (fnd.shE Ap [1, 2] x (-x) x) n w) := by
  obtain ⟨Sp, Sq, b1, j1, b2, j2, C1, C2, L1, L2, h1, h2, h3, h4, h5, h6⟩ := h
  exact (h1.com hn (some ⟨gP, 0, none⟩) 2 2 [1, 2] x gr hg h5 (by omega) (by omega) (fun y e s => by injection e with e; rw [← e] at s; exact (h3 _ s).2.2.1 rfl)).mono (fun e w' hm => tw_step hb h2 h3 h4 h5 h6 hm)
theorem Tw.get (h : Tw base gP gL p q Ap Aq n w) (k : Int) : Calls Try.prog 16 #[.pointer (some ⟨p, 0, none⟩), .int .i64 k] w fun e w' => e = .returned (fnd.aggA (fnd.acG Ap k)) ∧ Only (fun _ => False) w w' := by
  obtain ⟨Sp, Sq, b1, j1, b2, j2, C1, C2, L1, L2, h1, -⟩ := h
  exact pget_any k w h1.pu
end
/-- the accounts of two nodes, both the same -/
def aF (u h : Int) : List fnd.Ac := fnd.zA :: ⟨2000, 0, 0, u, h⟩ :: ⟨2000, 0, 0, u, h⟩ :: List.replicate 30 fnd.zA
theorem aF_top1 : fnd.topE fnd.A0 1 2000 = 0 := by kernel_rfl
theorem aF_top2 : fnd.topE (fnd.topA fnd.A0 1 2000) 2 2000 = 0 := by kernel_rfl
theorem aF_start : fnd.topA (fnd.topA fnd.A0 1 2000) 2 2000 = aF 0 0 := by kernel_rfl
theorem path12 : fnd.PathOk [1, 2] := by decide
theorem aF_hold (x : Int) (h : 1 ≤ x ∧ x ≤ 1000) : fnd.holdE (aF 0 0) [1, 2] [-1, -1] x = 0 ∧ fnd.holdA (aF 0 0) [1, 2] [-1, -1] x = aF 0 x := by
  have h1 : fnd.holdE (aF 0 0) [1, 2] [-1, -1] x = 0 := by
    unfold fnd.holdE
    rw [if_pos ⟨⟨path12, rfl, by decide⟩, by unfold fnd.AmtOk; omega⟩]
    have e1 : fnd.left (fnd.nd (aF 0 0) 1) = 2000 := by kernel_rfl
    have e2 : fnd.left (fnd.nd (aF 0 0) 2) = 2000 := by kernel_rfl
    unfold fnd.holdR
    rw [e1, if_neg (by omega), if_neg (by omega)]
    unfold fnd.holdR
    rw [e2, if_neg (by omega), if_neg (by omega)]
    rfl
  refine ⟨h1, ?_⟩
  unfold fnd.holdA
  rw [if_pos h1]
  show fnd.zA :: (⟨2000, 0, 0, 0 + 0, 0 + x⟩ : fnd.Ac) :: ⟨2000, 0, 0, 0 + 0, 0 + x⟩ :: List.replicate 30 fnd.zA = _
  rw [Int.zero_add, Int.zero_add]
  rfl
theorem aF_sh (u h x dh du : Int) (hx : 1 ≤ x ∧ x ≤ 1000) (h1 : 0 ≤ h + dh) (h2 : 0 ≤ u + du) : fnd.shE (aF u h) [1, 2] x dh du = 0 ∧ fnd.shA (aF u h) [1, 2] x dh du = aF (u + du) (h + dh) := by
  have hb : fnd.badB (aF u h) dh du [1, 2] = false := by
    show ((decide (h + dh < 0) || decide (u + du < 0)) || ((decide (h + dh < 0) || decide (u + du < 0)) || false)) = false
    simp; omega
  have he : fnd.shE (aF u h) [1, 2] x dh du = 0 := by
    unfold fnd.shE
    rw [if_pos ⟨path12, by unfold fnd.AmtOk; omega⟩, if_neg (by rw [hb]; simp)]
  refine ⟨he, ?_⟩
  unfold fnd.shA
  rw [if_pos he]
  rfl
theorem aF_no (u x : Int) (hx : 1 ≤ x ∧ x ≤ 1000) (du : Int) : fnd.shE (aF u 0) [1, 2] x (-x) du = 20 := by
  have hb : fnd.badB (aF u 0) (-x) du [1, 2] = true := by
    show ((decide (0 + -x < 0) || decide (u + du < 0)) || ((decide (0 + -x < 0) || decide (u + du < 0)) || false)) = true
    have : decide (0 + -x < 0) = true := by rw [decide_eq_true_iff]; omega
    rw [this]; rfl
  unfold fnd.shE
  rw [if_pos ⟨path12, by unfold fnd.AmtOk; omega⟩, if_pos hb]
theorem aF_get (u h : Int) (k : Int) (hk : k = 1 ∨ k = 2) : fnd.acG (aF u h) k = ⟨2000, 0, 0, u, h⟩ := by
  rcases hk with rfl | rfl
  · unfold fnd.acG; rw [if_pos (by decide)]; rfl
  · unfold fnd.acG; rw [if_pos (by decide)]; rfl
theorem kmod2 (a m : Int) (h1 : 1 ≤ m) (h2 : m ≤ 1000000) : ∃ K : Int, wrap64 ((IntKind.u64.wrap a).tmod m) = K ∧ 0 ≤ K ∧ K < m := by
  have h0 : 0 ≤ IntKind.u64.wrap a := by rw [IntKind.wrap_u64]; omega
  rw [Int.tmod_eq_emod_of_nonneg h0]
  have h3 := Int.emod_nonneg (IntKind.u64.wrap a) (by omega : m ≠ 0)
  have h4 := Int.emod_lt_of_pos (IntKind.u64.wrap a) (by omega : 0 < m)
  generalize IntKind.u64.wrap a % m = r at *
  exact ⟨r, IntWalk.wrap64_in _ (by omega), h3, h4⟩
end Go.Proofs.Ytkbaafgaaiekpaa.puw

namespace Go.Proofs.Ytkbaafgaaiekpaa.tre
open Go.RowKit mem
set_option linter.unusedVariables false

def RetC (l : List Int) (w0 : World) (v : Value) (w' : World) : Prop := ∃ a c, v = .slice a l.length c ∧ ReadsI w' a l.length l ∧ (∀ y, a = some y → w0.heap.size ≤ y.block) ∧ l.length ≤ c ∧ c ≤ maxLen
theorem RetC.nil (w0 w' : World) : RetC [] w0 (.slice none 0 0) w' := ⟨none, 0, rfl, ⟨rfl, by unfold maxLen; simp, (by intro c hc; cases hc), .inl rfl⟩, fun y e => (by cases e), Nat.zero_le _, Nat.zero_le _⟩
set_option maxRecDepth 100000 in
set_option maxHeartbeats 4000000 in
theorem path_anyC (p : Nat) (T : List Nd) (id : Int) (w : World) (h : TreeAt w p T) (hi : Inv T) (hb : hasB T id = true) : Calls Try.prog 47 #[.pointer (some ⟨p, 0, none⟩), .int .i64 id] w fun e w' => (∃ v, e = .returned v ∧ RetC (pathL T id) w v w') ∧ Only (fun _ => False) w w' := by
  obtain ⟨i1, hj, hy0, hy1, hy2⟩ : ∃ i1, Try.prog.info? 3 = some i1 ∧ i1.zero = some (.int .i64 0) ∧ i1.size = 1 ∧ i1.bytes = 8 := by
    obtain ⟨i, h1, h2⟩ := Option.map_eq_some_iff.1 info_i64
    exact ⟨i, h1, by simpa using h2⟩
  have HT := Lib.hid h
  have HI := Lib.hid hi
  have HK3 : Hid (∀ c, hasB T c = true → 1 ≤ c ∧ c ≤ 32 ∧ 1 ≤ kindN T c ∧ kindN T c ≤ 3) := Lib.hid (fun c hc => by
    have h1 := hasB_iff.1 hc
    obtain ⟨j, rfl⟩ : ∃ j : Nat, c = j := ⟨c.toNat, by omega⟩
    obtain ⟨h2, h3, _⟩ := hi j hc
    unfold kindN
    rw [Int.toNat_natCast]
    exact ⟨h1.1, h1.2.1, by omega, by omega⟩)
  have HU0 : Hid (∀ c ∈ upL T (kindN T id) id, hasB T c = true) := Lib.hid (upL_in hi _ id hb rfl)
  have hkid := HK3.out id hb
  have HLU := Lib.hid (upL_len T (kindN T id) id)
  have HPL : Hid (pathL T id = (upL T (kindN T id) id).reverse) := Lib.hid rfl
  obtain ⟨K, hK⟩ : ∃ K, K = kindN T id := ⟨_, rfl⟩
  have HATS : Hid (∃ n, n ≤ 3 ∧ (n = 0 ∧ id = 0 ∨ hasB T id = true ∧ kindN T id = n) ∧ [] ++ upL T n id = upL T K id) := Lib.hid ⟨K, by omega, .inr ⟨hb, hK.symm⟩, rfl⟩
  rw [← hK] at HU0 HLU HPL hkid
  clear h hi hb hK
  generalize upL T K id = U at *
  generalize pathL T id = PL at *
  go_enter Try.func47, Try.ntmps47
  go_wp2_with fail
  go_loopw [1, 5] (fun xv sv wr => ∃ (x : Int) (n : Nat) (dv : Value) (L : List Int), xv = .int .i64 x ∧ dv = sv ∧ n ≤ 3 ∧ Hid (n = 0 ∧ x = 0 ∨ hasB T x = true ∧ kindN T x = n) ∧ Hid (L ++ upL T n x = U) ∧ Hid (OwnI wr dv L) ∧ Hid (∀ q, dv.ownBlock = some q → w.heap.size ≤ q) ∧ Hid (Only (fun _ => False) w wr)) (fun xv _ _ => pm T (intOf xv))
  case atStart =>
    obtain ⟨n, h1, h2, h3⟩ := HATS.out
    exact ⟨_, n, _, [], rfl, rfl, h1, Lib.hid h2, Lib.hid h3, Lib.hid (OwnI.nil _), Lib.hid (fun q e => by cases e), Lib.hid (Only.refl _ _)⟩
  case round =>
    obtain ⟨x, n, dv, L, rfl, rfl, hn3, HX, HL, HOI, HBK, HO⟩ := hrel
    by_cases hx : x = 0
    · subst hx
      have HUL : Hid (L = U) := Lib.hid (by
        rcases HX.out with ⟨h1, _⟩ | ⟨h1, _⟩
        · have := HL.out; rw [h1] at this; simpa [upL] using this
        · have := hasB_iff.1 h1; omega)
      have hl3 : L.length = K := by rw [HUL.out, HLU.out]
      obtain ⟨g, cap, rfl, hcp, hg, hrd, hfz⟩ : ∃ g cap, dv = .slice (some ⟨g, 0, none⟩) L.length cap ∧ (L.length ≤ cap ∧ cap ≤ maxLen) ∧ g < wr.heap.size ∧ (∀ j, j < L.length → wr.cell? ⟨g, 0 + j, none⟩ = some (.int .i64 (L.getD j 0))) ∧ (∀ j, wr.frozen? ⟨g, j, none⟩ = false) := by
        have h0 := HOI.out
        rcases h0.2 with ⟨_, hn⟩ | ⟨g, cap, cur, hv, hg, hh, hc, hm, _⟩
        · omega
        · have h1 : wr.ownsRow 0 3 1 (.slice (some ⟨g, 0, none⟩) L.length cap) L.length (iv L) := by rw [← hv]; exact h0
          refine ⟨g, cap, hv, ⟨hc, hm⟩, heap_lt hh, fun j hj => ?_, fun j => ?_⟩
          · rw [Nat.zero_add, h1.cellAt j (by omega), iv_get L j hj]
          · unfold World.frozen?
            dsimp only
            rw [hh]
            simp
      have hgb : w.heap.size ≤ g := HBK.out g rfl
      have HREV := Lib.hid (Try.slices_Reverse_int_cells g 0 L.length cap L wr (Nat.le_refl _) (by omega) hrd (fun j hj => by rw [Nat.zero_add]; exact hfz j))
      have HEND : Hid (∀ q, RetC PL w (.slice (some ⟨g, 0, none⟩) K cap) ((wr.drewN q).setCells g 0 ((L.take L.length).reverse.map (Value.int .i64))) ∧ Only (fun _ => False) w ((wr.drewN q).setCells g 0 ((L.take L.length).reverse.map (Value.int .i64)))) := Lib.hid fun q => by
        refine ⟨?_, (HO.out.trans (only_drewN _ _ _)).then (only_setCells _ _ _ _) (fun i hi e => by omega)⟩
        have hPL : PL.length = K := by rw [HPL.out, List.length_reverse, HLU.out]
        have hPL2 : (L.take L.length).reverse = PL := by rw [List.take_length, HUL.out, ← HPL.out]
        rw [hPL2]
        have hra := World.rangeAt_setCells_same (wr.drewN q) g 0 (PL.map (Value.int .i64)) (fun j hj => by
          rw [List.length_map, hPL] at hj
          have h1 := (only_drewN (fun _ => False) wr q).cell' (hrd j (by omega)) (fun f => f)
          refine ⟨by rw [h1]; rfl, ?_⟩
          rw [Nat.zero_add]
          exact ((only_drewN (fun _ => False) wr q).frozen (p := ⟨g, j, none⟩) hg (fun f => f)).trans (hfz j))
        refine ⟨some ⟨g, 0, none⟩, cap, by rw [hPL], ⟨rfl, by unfold maxLen; omega, fun c hc => ?_, .inr ⟨g, 0, rfl, fun j hj => ?_⟩⟩, fun y e => by cases e; exact hgb, by omega, hcp.2⟩
        · have : c ∈ U := by rw [HPL.out] at hc; simpa using hc
          have := HK3.out c (HU0.out c this)
          omega
        · exact hra j _ (by simp [List.getD, hj])
      clear hrd hfz hcp
      rw [hl3] at HREV HEND ⊢
      clear hl3
      go_wp2_with fail
      refine HREV.out.mono ?_
      rintro _ _ ⟨rfl, q, rfl⟩
      have hend := HEND.out q
      simp only [List.map_reverse, List.map_take] at hend
      have HE := Lib.hid hend
      clear hend HEND
      go_wp2_with fail
      go_ret
      exact ⟨⟨.slice (some ⟨g, 0, none⟩) K cap, rfl, HE.out.1⟩, HE.out.2⟩
    · have hbx : hasB T x = true ∧ kindN T x = n := HX.out.resolve_left (fun h => hx h.2)
      obtain ⟨hbx1, hbx2⟩ := hbx
      have hr := HK3.out x hbx1
      obtain ⟨j, rfl⟩ : ∃ j : Nat, x = j := ⟨x.toNat, by omega⟩
      obtain ⟨m, rfl⟩ : ∃ m, n = m + 1 := ⟨n - 1, by omega⟩
      have hj33 : j < 33 := by omega
      have hj2 : (j : Int) < 33 := by omega
      have hj1 : (1 : Int) ≤ j := by omega
      have c1 := ((HT.out.only HO.out (fun f => f)).2.1 j hj33).2.1
      obtain ⟨i2, i3, i4, i5⟩ := HI.out j hbx1
      have HNX : Hid (m ≤ 3 ∧ (m = 0 ∧ (T.getD j default).par = 0 ∨ hasB T (T.getD j default).par = true ∧ kindN T (T.getD j default).par = m) ∧ (L ++ [(j : Int)]) ++ upL T m (T.getD j default).par = U) := Lib.hid (by
        unfold kindN at hbx2
        rw [Int.toNat_natCast] at hbx2
        refine ⟨by omega, ?_, by have := HL.out; rw [List.append_assoc]; simpa [upL] using this⟩
        by_cases h1 : (T.getD j default).kind = 1
        · exact .inl ⟨by rw [h1] at hbx2; simp at hbx2; omega, i4 h1⟩
        · exact .inr ⟨(i5 h1).1, by unfold kindN; have := (i5 h1).2; omega⟩)
      have HM : Hid (kindN T j = m + 1) := Lib.hid hbx2
      have HLL : Hid (L.length ≤ 3) := Lib.hid (by
        have := congrArg List.length HL.out
        rw [List.length_append, upL_len, HLU.out] at this
        omega)
      generalize hy : (T.getD j default).par = y at *
      have HY := Lib.hid hy
      clear hy
      have HOW2 : Hid ((wr.alloc (.cells #[.int .i64 j] 3)).ownsRow 0 3 1 dv L.length (iv L)) := Lib.hid (HOI.out.only ((Only.refl (fun _ => False) wr).alloc _) (fun _ _ f => f))
      have hxn : ((j : Int) != 0) = true := by simpa using hx
      replace hx : ¬ (j : Int) = 0 := hx
      generalize hn : L.length = l at *
      have HN := Lib.hid hn
      have hl3 : l ≤ 3 := HLL.out
      clear i2 i3 i4 i5 hbx1 hbx2 hr hn HLL HX
      have c1' := ((Only.refl (fun _ => False) wr).alloc (.cells #[.int .i64 j] 3)).cell' c1 (fun f => f)
      go_wp2_with (at_builtin; refine append_mine rfl _ _ 28 rfl 3 i1 _ 1 8 Try.underlying28 hj hy0 hy1 hy2 rfl (by decide) _ l _ rfl HOW2.out ⟨wr.heap.size, 0, none⟩ 1 1 (iv [(j : Int)]) rfl ?c1 ?c2 ?c3 ?c4 ?c5 ?_)
      case c1 => rfl
      case c2 => exact news_int rfl _
      case c3 => exact iv_one _
      case c4 => unfold maxLen; omega
      case c5 => omega
      intro v3 w3 hown hgrow hkk
      have HON : Hid (OwnI w3 v3 (L ++ [(j : Int)])) := Lib.hid (by
        unfold OwnI
        rw [iv_append, List.length_append, HN.out]
        exact hown)
      have HBN : Hid (∀ q, v3.ownBlock = some q → w.heap.size ≤ q) := Lib.hid (fun q hq => by
        rcases hkk q hq with e | e
        · exact HBK.out q e
        · have h5 : wr.heap.size ≤ q := by first | omega | (simp only [size_alloc] at e; omega)
          have := HO.out.size
          omega)
      have HON2 : Hid (Only (fun _ => False) w w3) := Lib.hid ((HO.out.alloc _).then (Only.of_grown hgrow) (fun q hq e => by have := HBK.out q e; omega))
      have c1'' := ((HT.out.only HON2.out (fun f => f)).2.1 j hj33).2.1
      rw [HY.out] at c1''
      clear hown hgrow hkk HOW2 c1 c1'
      go_wp2_with fail
      go_roundw
      case rel => exact ⟨y, m, v3, L ++ [(j : Int)], rfl, rfl, HNX.out.1, Lib.hid HNX.out.2.1, Lib.hid HNX.out.2.2, HON, HBN, HON2⟩
      case measure =>
        show pm T y < pm T j
        unfold pm
        rw [if_neg hx, HM.out]
        rcases HNX.out.2.1 with ⟨h1, h2⟩ | ⟨h1, h2⟩
        · rw [if_pos h2]; omega
        · by_cases hy0' : y = 0
          · rw [if_pos hy0']; omega
          · rw [if_neg hy0', h2]; omega
set_option maxRecDepth 100000 in
set_option maxHeartbeats 2000000 in
theorem bigpath_anyC (p : Nat) (T : List Nd) (id : Int) (w : World) (h : TreeAt w p T) (hi : Inv T) : Calls Try.prog 20 #[.pointer (some ⟨p, 0, none⟩), .int .i64 id] w fun e w' => (∃ v, e = .returned (.tuple #[v, .int .i64 (gotE T id)]) ∧ RetC (if hasB T id = true then pathL T id else []) w v w') ∧ Only (fun _ => False) w w' := by
  obtain ⟨ni, np, nk, nl, nc, ge, hgo, hge, hno, hyes, HG, HX⟩ := get_ahead p T id w h
  have HT := Lib.hid h
  rw [hge]
  by_cases hb : hasB T id = false
  · obtain rfl := hno hb
    rw [if_neg (by rw [hb]; simp)]
    clear hgo hge hno hyes hb h hi
    go_enter Try.func20, Try.ntmps20
    go_wp2_with fail
    refine HG.out.mono ?_
    rintro _ w1 ⟨rfl, ho⟩
    obtain ⟨e0, e1, e2, e3, e4, ho9⟩ := HX.out w1 ho
    have HO9 := Lib.hid ho9
    clear ho ho9 HG HX
    go_wp2_with fail
    go_ret2
    exact ⟨⟨_, rfl, RetC.nil _ _⟩, HO9.out⟩
  · have hb' : hasB T id = true := by simpa using hb
    obtain ⟨rfl, _⟩ := hyes hb'
    rw [if_pos hb']
    have HP : Hid (∀ w1, TreeAt w1 p T → _) := Lib.hid (fun w1 h => path_anyC p T id w1 h hi hb')
    clear hgo hge hno hyes hb hb' h hi
    generalize pathL T id = PL at *
    go_enter Try.func20, Try.ntmps20
    go_wp2_with fail
    refine HG.out.mono ?_
    rintro _ w1 ⟨rfl, ho⟩
    obtain ⟨e0, e1, e2, e3, e4, ho9⟩ := HX.out w1 ho
    have HO9 := Lib.hid ho9
    clear ho ho9 HG HX
    go_wp2_with fail
    refine (HP.out _ (HT.out.only HO9.out (fun f => f))).mono ?_
    rintro _ w2 ⟨⟨v, rfl, a, c, rfl, hr, hb, hcp⟩, ho2⟩
    have HR := Lib.hid hr
    have HB := Lib.hid hb
    have HCP := Lib.hid hcp
    have HO10 := Lib.hid (HO9.out.trans ho2)
    have HO2 := Lib.hid ho2
    clear hr hb hcp ho2 e0 e1 e2 e3 e4 HP
    go_wp2_with fail
    go_ret2
    exact ⟨⟨_, rfl, a, c, rfl, HR.out, fun y e => by have := HB.out y e; have := HO9.out.size; omega, HCP.out⟩, HO10.out⟩
end Go.Proofs.Ytkbaafgaaiekpaa.tre

namespace Go.Proofs.Ytkbaafgaaiekpaa.puw
open Go.RowKit mem entm
set_option linter.unusedVariables false

theorem A0_get4 (j : Nat) : fnd.A0.getD j fnd.zA = fnd.zA := fnd.getA0 j
theorem getD_set4 (A : List fnd.Ac) (i j : Nat) (x : fnd.Ac) (hi : i < A.length) : (A.set i x).getD j fnd.zA = if i = j then x else A.getD j fnd.zA := by
  rw [List.getD_eq_getElem?_getD, List.getElem?_set, List.getD_eq_getElem?_getD]
  by_cases e : i = j
  · subst e; simp [hi]
  · simp [e]
/-- the accounts of an organization, its team and two projects -/
structure Eq4 (A : List fnd.Ac) : Prop where
  len : A.length = 33
  out : ∀ j : Nat, ¬ (1 ≤ j ∧ j ≤ 4) → A.getD j fnd.zA = fnd.zA
  h1 : (A.getD 1 fnd.zA).h = (A.getD 2 fnd.zA).h
  h2 : (A.getD 2 fnd.zA).h = (A.getD 3 fnd.zA).h + (A.getD 4 fnd.zA).h
  u1 : (A.getD 1 fnd.zA).u = (A.getD 2 fnd.zA).u
  u2 : (A.getD 2 fnd.zA).u = (A.getD 3 fnd.zA).u + (A.getD 4 fnd.zA).u
theorem Eq4.z : Eq4 fnd.A0 := ⟨by unfold fnd.A0; rw [List.length_replicate], fun j _ => A0_get4 j, by rw [A0_get4, A0_get4], by rw [A0_get4, A0_get4, A0_get4]; rfl, by rw [A0_get4, A0_get4], by rw [A0_get4, A0_get4, A0_get4]; rfl⟩
theorem acG4 {A : List fnd.Ac} {m : Nat} (hm : 1 ≤ m ∧ m ≤ 32) : fnd.acG A (m : Int) = A.getD m fnd.zA := by
  unfold fnd.acG
  rw [if_pos (by unfold fnd.NodeOk; omega), Int.toNat_natCast]
theorem Eq4.top {A : List fnd.Ac} (h : Eq4 A) (m : Nat) (hm : 1 ≤ m ∧ m ≤ 4) (x : Int) : Eq4 (fnd.topA A (m : Int) x) := by
  have hl := h.len
  unfold fnd.topA
  split
  · rw [Int.toNat_natCast, acG4 (by omega)]
    have key : ∀ j, ((A.set m { A.getD m fnd.zA with t := (A.getD m fnd.zA).t + x }).getD j fnd.zA).h = (A.getD j fnd.zA).h ∧ ((A.set m { A.getD m fnd.zA with t := (A.getD m fnd.zA).t + x }).getD j fnd.zA).u = (A.getD j fnd.zA).u := fun j => by
      rw [getD_set4 A m j _ (by omega)]
      by_cases e : m = j
      · rw [if_pos e, ← e]; exact ⟨rfl, rfl⟩
      · rw [if_neg e]; exact ⟨rfl, rfl⟩
    refine ⟨by rw [List.length_set]; exact hl, fun j hj => ?_, ?_, ?_, ?_, ?_⟩
    · rw [getD_set4 A m j _ (by omega), if_neg (by omega)]; exact h.out j hj
    · rw [(key 1).1, (key 2).1]; exact h.h1
    · rw [(key 2).1, (key 3).1, (key 4).1]; exact h.h2
    · rw [(key 1).2, (key 2).2]; exact h.u1
    · rw [(key 2).2, (key 3).2, (key 4).2]; exact h.u2
  · exact h
theorem sh_get (dh du : Int) (j : Nat) : ∀ (l : List Int) (A : List fnd.Ac), A.length = 33 → l.Nodup → (∀ n ∈ l, 1 ≤ n ∧ n ≤ 32) → (fnd.shT A l dh du).getD j fnd.zA = if (j : Int) ∈ l then fnd.shB (A.getD j fnd.zA) dh du else A.getD j fnd.zA
  | [], A, _, _, _ => by rw [if_neg (by simp)]; rfl
  | n :: r, A, hl, hn, hr => by
    rw [List.nodup_cons] at hn
    have hn1 := hr n (by simp)
    have ih := sh_get dh du j r (A.set n.toNat (fnd.shB (fnd.nd A n) dh du)) (by rw [List.length_set]; exact hl) hn.2 (fun m hm => hr m (by simp [hm]))
    have e : fnd.shT A (n :: r) dh du = fnd.shT (A.set n.toNat (fnd.shB (fnd.nd A n) dh du)) r dh du := rfl
    rw [e, ih, getD_set4 A n.toNat j _ (by omega)]
    by_cases ej : n = (j : Int)
    · have e2 : n.toNat = j := by omega
      have e3 : ¬ (j : Int) ∈ r := by rw [← ej]; exact hn.1
      rw [if_neg e3, if_pos e2, if_pos (show (j : Int) ∈ n :: r by rw [ej]; simp)]
      unfold fnd.nd
      rw [e2]
    · have e2 : ¬ n.toNat = j := by omega
      rw [if_neg e2]
      by_cases ej2 : (j : Int) ∈ r
      · rw [if_pos ej2, if_pos (show (j : Int) ∈ n :: r by simp [ej2])]
      · rw [if_neg ej2, if_neg (fun f => by
          rcases List.mem_cons.1 f with f | f
          · exact ej f.symm
          · exact ej2 f)]
theorem path_good (q : Int) (hq : q = 3 ∨ q = 4) : ([1, 2, q] : List Int).Nodup ∧ ∀ n ∈ ([1, 2, q] : List Int), 1 ≤ n ∧ n ≤ 32 := by
  rcases hq with rfl | rfl
  · decide
  · decide
theorem Eq4.sh {A : List fnd.Ac} (h : Eq4 A) (q : Int) (hq : q = 3 ∨ q = 4) (dh du : Int) : Eq4 (fnd.shT A [1, 2, q] dh du) := by
  have key := fun j => sh_get dh du j [1, 2, q] A h.len (path_good q hq).1 (path_good q hq).2
  have i1 := h.h1
  have i2 := h.h2
  have i3 := h.u1
  have i4 := h.u2
  rcases hq with rfl | rfl
  · have k1 := key 1
    have k2 := key 2
    have k3 := key 3
    have k4 := key 4
    rw [if_pos (by decide)] at k1 k2 k3
    rw [if_neg (by decide)] at k4
    refine ⟨by rw [fnd.shT_len]; exact h.len, fun j hj => ?_, ?_, ?_, ?_, ?_⟩
    · rw [key j, if_neg (by simp; omega)]; exact h.out j hj
    · rw [k1, k2]; unfold fnd.shB; dsimp only; omega
    · rw [k2, k3, k4]; unfold fnd.shB; dsimp only; omega
    · rw [k1, k2]; unfold fnd.shB; dsimp only; omega
    · rw [k2, k3, k4]; unfold fnd.shB; dsimp only; omega
  · have k1 := key 1
    have k2 := key 2
    have k3 := key 3
    have k4 := key 4
    rw [if_pos (by decide)] at k1 k2 k4
    rw [if_neg (by decide)] at k3
    refine ⟨by rw [fnd.shT_len]; exact h.len, fun j hj => ?_, ?_, ?_, ?_, ?_⟩
    · rw [key j, if_neg (by simp; omega)]; exact h.out j hj
    · rw [k1, k2]; unfold fnd.shB; dsimp only; omega
    · rw [k2, k3, k4]; unfold fnd.shB; dsimp only; omega
    · rw [k1, k2]; unfold fnd.shB; dsimp only; omega
    · rw [k2, k3, k4]; unfold fnd.shB; dsimp only; omega
theorem Eq4.hold {A : List fnd.Ac} (h : Eq4 A) (q : Int) (hq : q = 3 ∨ q = 4) (ls : List Int) (x : Int) : Eq4 (fnd.holdA A [1, 2, q] ls x) := by
  unfold fnd.holdA
  split
  · exact h.sh q hq x 0
  · exact h
theorem Eq4.shift {A : List fnd.Ac} (h : Eq4 A) (q : Int) (hq : q = 3 ∨ q = 4) (x dh du : Int) : Eq4 (fnd.shA A [1, 2, q] x dh du) := by
  unfold fnd.shA
  split
  · exact h.sh q hq dh du
  · exact h
theorem nodU_mem (A : List fnd.Ac) (j : Nat) : (j : Int) ∈ fnd.nodU A 33 ↔ j < 33 ∧ A.getD j fnd.zA ≠ fnd.zA := by
  unfold fnd.nodU
  rw [List.mem_map]
  constructor
  · rintro ⟨i, hi, e⟩
    rw [List.mem_filter, List.mem_range] at hi
    have : i = j := by omega
    subst this
    exact ⟨hi.1, by simpa using hi.2⟩
  · rintro ⟨h1, h2⟩
    exact ⟨j, by rw [List.mem_filter, List.mem_range]; exact ⟨h1, by simpa using h2⟩, rfl⟩
theorem rollF_get (carry : List Int) (j : Nat) : ∀ (ns : List Int) (A : List fnd.Ac) (s : Int), A.length = 33 → ns.Nodup → (∀ n ∈ ns, fnd.NodeOk n) → (rollF carry (A, s) ns).1.length = 33 ∧ (rollF carry (A, s) ns).1.getD j fnd.zA = if (j : Int) ∈ ns then fnd.rolled (A.getD j fnd.zA) (carry.contains (j : Int)) else A.getD j fnd.zA
  | [], A, s, hl, _, _ => ⟨hl, by rw [if_neg (by simp)]; rfl⟩
  | n :: r, A, s, hl, hn, hr => by
    rw [List.nodup_cons] at hn
    have hn1 := hr n (by simp)
    have hn2 := hn1
    unfold fnd.NodeOk at hn2
    have e0 : fnd.rollA A n (carry.contains n) = A.set n.toNat (fnd.rolled (fnd.acG A n) (carry.contains n)) := by unfold fnd.rollA; rw [if_pos hn1]
    have ih := rollF_get carry j r (fnd.rollA A n (carry.contains n)) (s + fnd.rollN A n (carry.contains n)) (by rw [e0, List.length_set]; exact hl) hn.2 (fun m hm => hr m (by simp [hm]))
    have e : rollF carry (A, s) (n :: r) = rollF carry (fnd.rollA A n (carry.contains n), s + fnd.rollN A n (carry.contains n)) r := rfl
    rw [e]
    refine ⟨ih.1, ?_⟩
    rw [ih.2, e0, getD_set4 A n.toNat j _ (by omega)]
    by_cases ej : n = (j : Int)
    · have e2 : n.toNat = j := by omega
      have e3 : ¬ (j : Int) ∈ r := by rw [← ej]; exact hn.1
      rw [if_neg e3, if_pos e2, if_pos (show (j : Int) ∈ n :: r by rw [ej]; simp), ej, acG4 (by omega)]
    · have e2 : ¬ n.toNat = j := by omega
      rw [if_neg e2]
      by_cases ej2 : (j : Int) ∈ r
      · rw [if_pos ej2, if_pos (show (j : Int) ∈ n :: r by simp [ej2])]
      · rw [if_neg ej2, if_neg (fun f => by
          rcases List.mem_cons.1 f with f | f
          · exact ej f.symm
          · exact ej2 f)]
theorem in4 {A : List fnd.Ac} (h : Eq4 A) {n : Int} (hn : n ∈ fnd.nodU A 33) : ([1, 2, 3, 4] : List Int).contains n = true ∧ fnd.NodeOk n := by
  have h0 := fnd.nodU_in A 33 n hn
  obtain ⟨j, rfl⟩ : ∃ j : Nat, n = (j : Int) := ⟨n.toNat, by omega⟩
  have h1 := (nodU_mem A j).1 hn
  have h2 : 1 ≤ j ∧ j ≤ 4 := Decidable.byContradiction fun e => h1.2 (h.out j e)
  refine ⟨?_, by unfold fnd.NodeOk; omega⟩
  have h3 : j = 1 ∨ j = 2 ∨ j = 3 ∨ j = 4 := by omega
  rcases h3 with rfl | rfl | rfl | rfl <;> rfl
theorem Eq4.roll {A : List fnd.Ac} (h : Eq4 A) : Eq4 (rollF [1, 2, 3, 4] (A, 0) (fnd.nodU A 33)).1 := by
  have key := fun j => rollF_get [1, 2, 3, 4] j (fnd.nodU A 33) A 0 h.len (nodU_nodup A) (fun n hn => (in4 h hn).2)
  have k2 : ∀ j : Nat, 1 ≤ j ∧ j ≤ 4 → ((rollF [1, 2, 3, 4] (A, 0) (fnd.nodU A 33)).1.getD j fnd.zA).h = (A.getD j fnd.zA).h ∧ ((rollF [1, 2, 3, 4] (A, 0) (fnd.nodU A 33)).1.getD j fnd.zA).u = 0 := fun j hj => by
    rw [(key j).2]
    by_cases e : (j : Int) ∈ fnd.nodU A 33
    · rw [if_pos e]; exact ⟨rfl, rfl⟩
    · rw [if_neg e]
      have e2 : A.getD j fnd.zA = fnd.zA := Decidable.byContradiction fun f => e ((nodU_mem A j).2 ⟨by omega, f⟩)
      rw [e2]
      exact ⟨rfl, rfl⟩
  refine ⟨(key 0).1, fun j hj => ?_, ?_, ?_, ?_, ?_⟩
  · rw [(key j).2, if_neg (fun e => ((nodU_mem A j).1 e).2 (h.out j hj))]; exact h.out j hj
  · rw [(k2 1 (by omega)).1, (k2 2 (by omega)).1]; exact h.h1
  · rw [(k2 2 (by omega)).1, (k2 3 (by omega)).1, (k2 4 (by omega)).1]; exact h.h2
  · rw [(k2 1 (by omega)).2, (k2 2 (by omega)).2]
  · rw [(k2 2 (by omega)).2, (k2 3 (by omega)).2, (k2 4 (by omega)).2]; rfl
theorem exp4 {A : List fnd.Ac} (h : Eq4 A) : expN A [1, 2, 3, 4] (fnd.nodU A 33) = [] := by
  unfold expN
  rw [List.flatMap_eq_nil_iff]
  intro n hn
  rw [if_pos (.inr (in4 h hn).1)]
/-- the accounts of the entries -/
def accs : List AcC := [⟨1, 0, 0⟩, ⟨2, 1, 0⟩, ⟨3, 1, 0⟩, ⟨4, 1, 1⟩, ⟨5, 1, 0⟩, ⟨2, 2, 0⟩, ⟨3, 2, 0⟩, ⟨4, 2, 1⟩, ⟨5, 2, 0⟩, ⟨2, 3, 0⟩, ⟨3, 3, 0⟩, ⟨4, 3, 1⟩, ⟨5, 3, 0⟩, ⟨2, 4, 0⟩, ⟨3, 4, 0⟩, ⟨4, 4, 1⟩, ⟨5, 4, 0⟩]
theorem accs_nodup : accs.Nodup := by decide
theorem sum_two {α : Type} (f g : α → Int) : ∀ l : List α, (l.map fun a => f a + g a).sum = (l.map f).sum + (l.map g).sum
  | [] => rfl
  | a :: r => by rw [List.map_cons, List.sum_cons, List.map_cons, List.sum_cons, List.map_cons, List.sum_cons, sum_two f g r]; omega
theorem sum_not (b : AcC) (x : Int) : ∀ l : List AcC, b ∉ l → (l.map fun a => if b = a then x else 0).sum = 0
  | [], _ => rfl
  | a :: r, h => by
    rw [List.map_cons, List.sum_cons, sum_not b x r (fun f => h (by simp [f])), if_neg (fun f => h (by simp [f]))]
    rfl
theorem sum_at (b : AcC) (x : Int) : ∀ l : List AcC, l.Nodup → b ∈ l → (l.map fun a => if b = a then x else 0).sum = x
  | [], _, h => by cases h
  | a :: r, hn, h => by
    rw [List.nodup_cons] at hn
    rw [List.map_cons, List.sum_cons]
    by_cases e : b = a
    · rw [if_pos e, sum_not b x r (by rw [e]; exact hn.1)]; omega
    · rw [if_neg e, sum_at b x r hn.2 (by
        rcases List.mem_cons.1 h with f | f
        · exact absurd f e
        · exact f)]
      omega
def amts4 (ls : List Lg) : Int := (ls.map (·.a)).sum
theorem sum_atA : ∀ ls : List Lg, (∀ l ∈ ls, jnw.lgA l ∈ accs) → (accs.map fun a => jnw.atA a ls).sum = amts4 ls
  | [], _ => by
    have e : ∀ l : List AcC, (l.map fun a => jnw.atA a []).sum = 0 := fun l => by
      induction l with
      | nil => rfl
      | cons a r ih => rw [List.map_cons, List.sum_cons, ih]; rfl
    rw [e]; rfl
  | l :: r, h => by
    have e : (fun a => jnw.atA a (l :: r)) = fun a => (if jnw.lgA l = a then l.a else 0) + jnw.atA a r := funext fun a => jnw.atA_cons a l r
    rw [e, sum_two, sum_at _ _ _ accs_nodup (h l (by simp)), sum_atA r (fun m hm => h m (by simp [hm]))]
    unfold amts4
    rw [List.map_cons, List.sum_cons]
def tot17 (C : AcC → Option (List Int)) : Int := (accs.map fun a => (jnw.ror C a).sum).sum
def LegsOk (ls : List Lg) : Prop := ls.length ≤ 6 ∧ (∀ l ∈ ls, -1000 ≤ l.a ∧ l.a ≤ 1000) ∧ ∀ l ∈ ls, jnw.lgA l ∈ accs
theorem LegsOk.perm {a b : List Lg} (h : LegsOk b) (hp : a.Perm b) : LegsOk a := ⟨by rw [hp.length_eq]; exact h.1, fun l hl => h.2.1 l (hp.mem_iff.1 hl), fun l hl => h.2.2 l (hp.mem_iff.1 hl)⟩
theorem legs1 (m : Int) (hm : 1 ≤ m ∧ m ≤ 1000) (gr : Int) (n : Int) (hn : n = 1 ∨ n = 2 ∨ n = 3 ∨ n = 4) : LegsOk (rawL 1 m gr [n]) := by
  rw [raw1]
  refine ⟨by simp, fun l hl => ?_, fun l hl => ?_⟩
  · simp at hl
    rcases hl with rfl | rfl
    · dsimp only; omega
    · dsimp only; omega
  · simp at hl
    rcases hl with rfl | rfl
    · show (⟨1, 0, 0⟩ : AcC) ∈ accs; decide
    · show (⟨2, n, 0⟩ : AcC) ∈ accs
      rcases hn with rfl | rfl | rfl | rfl <;> decide
theorem legsN (k m gr q : Int) (hm : 1 ≤ m ∧ m ≤ 1000) (hq : q = 3 ∨ q = 4) (hk : (k = 2 ∨ k = 3) ∧ gr = 0 ∨ (k = 4 ∨ k = 6) ∧ gr = 1) : LegsOk (rawL k m gr [1, 2, q]) := by
  have hk1 : ¬ k = 1 := by omega
  rw [rawL_ne hk1]
  have hmem : ∀ l ∈ rawN k m gr [1, 2, q], ∃ n : Int, (n = 1 ∨ n = 2 ∨ n = 3 ∨ n = 4) ∧ (l = debL k m n gr ∨ l = creL k m n gr) := fun l hl => by
    unfold rawN nodeL at hl
    rw [List.mem_flatMap] at hl
    obtain ⟨n, hn, hl⟩ := hl
    rw [if_neg hk1] at hl
    refine ⟨n, ?_, by simpa using hl⟩
    simp at hn
    omega
  refine ⟨by rw [rawN_len hk1]; simp, fun l hl => ?_, fun l hl => ?_⟩
  · obtain ⟨n, hn, rfl | rfl⟩ := hmem l hl
    · rw [debL_a]; omega
    · rw [creL_a]; omega
  · obtain ⟨n, hn, e⟩ := hmem l hl
    rcases hk with ⟨rfl | rfl, rfl⟩ | ⟨rfl | rfl, rfl⟩
    · rcases e with rfl | rfl
      · show (⟨2, n, 0⟩ : AcC) ∈ accs; rcases hn with rfl | rfl | rfl | rfl <;> decide
      · show (⟨3, n, 0⟩ : AcC) ∈ accs; rcases hn with rfl | rfl | rfl | rfl <;> decide
    · rcases e with rfl | rfl
      · show (⟨3, n, 0⟩ : AcC) ∈ accs; rcases hn with rfl | rfl | rfl | rfl <;> decide
      · show (⟨2, n, 0⟩ : AcC) ∈ accs; rcases hn with rfl | rfl | rfl | rfl <;> decide
    · rcases e with rfl | rfl
      · show (⟨3, n, 0⟩ : AcC) ∈ accs; rcases hn with rfl | rfl | rfl | rfl <;> decide
      · show (⟨4, n, 1⟩ : AcC) ∈ accs; rcases hn with rfl | rfl | rfl | rfl <;> decide
    · rcases e with rfl | rfl
      · show (⟨4, n, 1⟩ : AcC) ∈ accs; rcases hn with rfl | rfl | rfl | rfl <;> decide
      · show (⟨2, n, 0⟩ : AcC) ∈ accs; rcases hn with rfl | rfl | rfl | rfl <;> decide
/-- the journal: balanced, of small entries -/
def Jk (C : AcC → Option (List Int)) (L : List jnw.Ps) : Prop := tot17 C = 0 ∧ ∀ x ∈ L, amts4 x.ls = 0 ∧ LegsOk x.ls
theorem none17 : tot17 (fun _ => none) = 0 := by
  have e : ∀ l : List AcC, (l.map fun a => (jnw.ror (fun _ => none) a).sum).sum = 0 := fun l => by
    induction l with
    | nil => rfl
    | cons a r ih => rw [List.map_cons, List.sum_cons, ih, none_sum]; rfl
  exact e accs
theorem Jk.nil : Jk (fun _ => none) [] := ⟨none17, fun x hx => by cases hx⟩
theorem Jk.add {C : AcC → Option (List Int)} {L : List jnw.Ps} (h : Jk C L) {B : Int} (hB : jnw.Bnd C B) (hb : B ≤ 1152921504606846976) {op : Nat} (hop : op < 32) {k : Int} {x : jnw.Ps} (hc : chk k x.ls = 0) (hl : LegsOk x.ls) : Jk (jnw.addC C op x.ls) (L ++ [x]) := by
  have hz : amts4 x.ls = 0 := ((chk_ok k x.ls).1 hc).2.2.2.1
  refine ⟨?_, fun y hy => ?_⟩
  · have e : (fun a => (jnw.ror (jnw.addC C op x.ls) a).sum) = fun a => (jnw.ror C a).sum + jnw.atA a x.ls := funext fun a => hB.sum hb hop hc a
    unfold tot17
    rw [e, sum_two, sum_atA _ hl.2.2, hz]
    have := h.1
    unfold tot17 at this
    omega
  · rcases List.mem_append.1 hy with hy | hy
    · exact h.2 y hy
    · rw [List.mem_singleton] at hy; rw [hy]; exact ⟨hz, hl⟩
/-- the trial -/
theorem tr_diffS {x y : Int × Int} {l : Lg} (h : jnw.trS x l = some y) : y.1 - y.2 = x.1 - x.2 + l.a := by
  unfold jnw.trS at h
  split at h
  · split at h
    · injection h with h; subst h; show x.1 + l.a - x.2 = _; omega
    · cases h
  · split at h
    · injection h with h; subst h; show x.1 - (x.2 - l.a) = _; omega
    · cases h
theorem tr_some : ∀ (ls : List Lg) (x : Int × Int), (∀ l ∈ ls, -1000 ≤ l.a ∧ l.a ≤ 1000) → 0 ≤ x.1 → 0 ≤ x.2 → x.1 + x.2 + 1000 * (ls.length : Int) ≤ 1000000000000000 → ∃ y, jnw.trL ls x = some y ∧ 0 ≤ y.1 ∧ 0 ≤ y.2 ∧ y.1 + y.2 ≤ x.1 + x.2 + 1000 * (ls.length : Int) ∧ y.1 - y.2 = x.1 - x.2 + amts4 ls
  | [], x, _, h1, h2, _ => ⟨x, rfl, h1, h2, by simp, by unfold amts4; simp⟩
  | l :: r, x, h, h1, h2, h3 => by
    have hl := h l (by simp)
    have e0 : ((l :: r).length : Int) = (r.length : Int) + 1 := by simp
    rw [e0] at h3 ⊢
    have ea : amts4 (l :: r) = l.a + amts4 r := by unfold amts4; rw [List.map_cons, List.sum_cons]
    obtain ⟨z, hz, z1, z2, z3⟩ : ∃ z, jnw.trS x l = some z ∧ 0 ≤ z.1 ∧ 0 ≤ z.2 ∧ z.1 + z.2 ≤ x.1 + x.2 + 1000 := by
      unfold jnw.trS
      by_cases e : 0 < l.a
      · rw [if_pos e, if_pos ((intm.isInt_iff _).2 (by omega))]
        exact ⟨_, rfl, by dsimp only; omega, by dsimp only; omega, by dsimp only; omega⟩
      · rw [if_neg e, if_pos ((intm.isInt_iff _).2 (by omega))]
        exact ⟨_, rfl, by dsimp only; omega, by dsimp only; omega, by dsimp only; omega⟩
    have hd := tr_diffS hz
    obtain ⟨y, hy, y1, y2, y3, y4⟩ := tr_some r z (fun m hm => h m (by simp [hm])) z1 z2 (by omega)
    refine ⟨y, ?_, y1, y2, by omega, by omega⟩
    show (jnw.trS x l).bind (jnw.trL r) = some y
    rw [hz]
    exact hy
theorem trP_some : ∀ (L : List jnw.Ps) (x : Int × Int), (∀ e ∈ L, amts4 e.ls = 0 ∧ LegsOk e.ls) → 0 ≤ x.1 → 0 ≤ x.2 → x.1 + x.2 + 6000 * (L.length : Int) ≤ 1000000000000000 → ∃ y, jnw.trP (-1) L x = some y ∧ y.1 - y.2 = x.1 - x.2
  | [], x, _, _, _, _ => ⟨x, rfl, rfl⟩
  | p :: r, x, h, h1, h2, h3 => by
    obtain ⟨hz, hl1, hl2, _⟩ := h p (by simp)
    have e0 : ((p :: r).length : Int) = (r.length : Int) + 1 := by simp
    rw [e0] at h3
    obtain ⟨z, hz1, z1, z2, z3, z4⟩ := tr_some p.ls x hl2 h1 h2 (by omega)
    obtain ⟨y, hy, hy2⟩ := trP_some r z (fun m hm => h m (by simp [hm])) z1 z2 (by omega)
    refine ⟨y, ?_, by omega⟩
    show (if (-1 : Int) ≠ -1 ∧ (p.per : Int) ≠ -1 then jnw.trP (-1) r x else (jnw.trL p.ls x).bind (jnw.trP (-1) r)) = some y
    rw [if_neg (fun f => f.1 rfl), hz1]
    exact hy
/-- the row of moves -/
def RowM (w : World) (a : Option Addr) (len : Nat) : Prop := len ≤ maxLen ∧ (len = 0 ∨ ∃ b off, a = some ⟨b, off, none⟩ ∧ ∀ i, i < len → ∃ x y z : Int, w.cell? ⟨b, off + i * 3, none⟩ = some (.int .i64 x) ∧ w.cell? ⟨b, off + i * 3 + 1, none⟩ = some (.int .i64 y) ∧ w.cell? ⟨b, off + i * 3 + 2, none⟩ = some (.int .i64 z))
section
variable {H : Type} {enc : TypeId × Value → H} {w : World} {base : Nat}
set_option maxRecDepth 100000 in
theorem moves_open {fuel : Nat} {ao : Option Addr} {len cap : Nat} {x : DataW H × List MemPlace} (h : DataW.trod enc Try.prog w base (fun _ => true) true fuel 43 [.slice ao len cap] = some x) : RowM w ao len := by
  rcases Go.Deep.open_slice Try.underlying43 h with ⟨hcs, _⟩ | ⟨a, len2, cap2, m, n, D, Pl, hcs, hb, hl, hm, hmm, hx, hi⟩
  · simp at hcs
    obtain ⟨rfl, rfl, rfl⟩ := hcs
    exact ⟨by unfold maxLen; omega, .inl rfl⟩
  · simp at hcs
    obtain ⟨rfl, rfl, rfl⟩ := hcs
    simp at hmm
    have hC : Try.prog.cellsOf 50 = 3 := by kernel_rfl
    rw [hC] at hi
    have key : ∀ i, i < len → ∃ x y z : Int, w.cell? ((a.add (i * 3)).add 0) = some (.int .i64 x) ∧ w.cell? ((a.add (i * 3)).add 1) = some (.int .i64 y) ∧ w.cell? ((a.add (i * 3)).add 2) = some (.int .i64 z) := by
      intro i hil
      obtain ⟨cs', hc, ht'⟩ := hi i (by omega)
      obtain ⟨ys, n', _, _, hlen, hyl, hf⟩ := DataW.trod_struct Try.underlying50 ht'
      obtain ⟨_, hcl, hat⟩ := World.cells?_some hc
      match cs', ys, hcl, hyl, hat, hf with
      | [c0, c1, c2], [y0, y1, y2], _, _, hat, hf =>
        have f0 := hf 0 _ rfl
        have f1 := hf 1 _ rfl
        have f2 := hf 2 _ rfl
        have o3 : Try.prog.cellsOf 3 = 1 := by kernel_rfl
        simp [o3] at f0 f1 f2
        obtain ⟨k0, hk0, _, w0⟩ := DataW.trod_int Try.underlying3 f0
        obtain ⟨k1, hk1, _, w1⟩ := DataW.trod_int Try.underlying3 f1
        obtain ⟨k2, hk2, _, w2⟩ := DataW.trod_int Try.underlying3 f2
        simp at hk0 hk1 hk2
        subst hk0 hk1 hk2
        exact ⟨k0, k1, k2, by simpa using hat 0 (by omega), by simpa using hat 1 (by omega), by simpa using hat 2 (by omega)⟩
    by_cases h0 : len = 0
    · subst h0
      exact ⟨by unfold maxLen; omega, .inl rfl⟩
    · obtain ⟨b, off, spot⟩ := a
      obtain ⟨_, _, _, d0, _⟩ := key 0 (by omega)
      have hspot : spot = none := by simpa [Addr.add] using World.cell?_spot d0
      subst hspot
      refine ⟨by omega, .inr ⟨b, off, rfl, fun i hil => ?_⟩⟩
      obtain ⟨x, y, z, d0, d1, d2⟩ := key i hil
      rw [add_none, add_none] at d0 d1 d2
      rw [Nat.add_zero] at d0
      exact ⟨x, y, z, d0, d1, d2⟩
end
end Go.Proofs.Ytkbaafgaaiekpaa.puw

namespace Go.Proofs.Ytkbaafgaaiekpaa.puw
open Go.RowKit mem entm
set_option linter.unusedVariables false

/-- the purse behind n moves, its blocks from base to top -/
def St (base top : Nat) (w : World) (p pb pj n : Nat) : Prop := ∃ (S : Nat → Prop) (A : List fnd.Ac) (op : Nat) (C : AcC → Option (List Int)) (L : List jnw.Ps), Pv S w p pb pj A n op C L ∧ (∀ q, S q → base ≤ q ∧ q < top) ∧ Eq4 A ∧ Jk C L
theorem St.quiet {base top : Nat} {w w' : World} {p pb pj n : Nat} (h : St base top w p pb pj n) (ho : Only (fun _ => False) w w') : St base top w' p pb pj n := by
  obtain ⟨S, A, op, C, L, hv, h2⟩ := h
  exact ⟨S, A, op, C, L, hv.quiet ho, h2⟩
/-- what a move leaves -/
def StR (base : Nat) (w : World) (p pb pj n : Nat) (e : Ending) (w' : World) : Prop := (∃ E : Int, e = .returned (.int .i64 E)) ∧ Only (fun q => base ≤ q) w w' ∧ St base w'.heap.size w' p pb pj (n + 1)
theorem PvR.ex {S : Nat → Prop} {base : Nat} {w w' : World} {p pb pj n op : Nat} {A A' : List fnd.Ac} {C : AcC → Option (List Int)} {L : List jnw.Ps} {kind m gr E : Int} {path : List Int} {e : Ending} (hm : PvR S w p pb pj n op C L kind m gr path A' E e w') (hv : Pv S w p pb pj A n op C L) (hb : ∀ q, S q → base ≤ q) (hw : base ≤ w.heap.size) (hn : n ≤ 100) (hj : Jk C L) (hl : LegsOk (rawL kind m gr path)) : e = .returned (.int .i64 E) ∧ Only (fun q => base ≤ q) w w' ∧ ∃ (S' : Nat → Prop) (C' : AcC → Option (List Int)) (L' : List jnw.Ps), Pv S' w' p pb pj A' (n + 1) op C' L' ∧ (∀ q, S' q → base ≤ q ∧ q < w'.heap.size) ∧ Jk C' L' := by
  obtain ⟨rfl, ho, S', C', L', hs, hv', hc⟩ := hm
  have hS : ∀ q, S' q → base ≤ q ∧ q < w'.heap.size := fun q hq => ⟨by
    rcases hs q hq with h | h
    · exact hb q h
    · omega, hv'.lt q hq⟩
  refine ⟨rfl, ho.mono (fun q _ s => hb q s), S', C', L', hv', hS, ?_⟩
  rcases hc with ⟨_, rfl, rfl⟩ | ⟨_, ls, x, hy, rfl, rfl, hx, _, _⟩
  · exact hj
  · subst hx
    exact hj.add hv.bd (by omega) hv.pu.opl hy.2.2.2.1 (hl.perm hy.2.1)
theorem PvR.st {S : Nat → Prop} {base : Nat} {w w' : World} {p pb pj n op : Nat} {A A' : List fnd.Ac} {C : AcC → Option (List Int)} {L : List jnw.Ps} {kind m gr E : Int} {path : List Int} {e : Ending} (hm : PvR S w p pb pj n op C L kind m gr path A' E e w') (hv : Pv S w p pb pj A n op C L) (hb : ∀ q, S q → base ≤ q) (hw : base ≤ w.heap.size) (hn : n ≤ 100) (he : Eq4 A') (hj : Jk C L) (hl : LegsOk (rawL kind m gr path)) : StR base w p pb pj n e w' := by
  obtain ⟨h1, h2, S', C', L', h3, h4, h5⟩ := hm.ex hv hb hw hn hj hl
  exact ⟨⟨E, h1⟩, h2, S', A', op, C', L', h3, h4, he, h5⟩
section
variable {base tp : Nat} {w : World} {p pb pj n : Nat}
theorem St.top (h : St base tp w p pb pj n) (hw : base ≤ w.heap.size) (hn : n ≤ 100) (k : Int) (hk : k = 1 ∨ k = 2 ∨ k = 3 ∨ k = 4) (x : Int) (hx : 1 ≤ x ∧ x ≤ 1000) :
    Calls Try.prog 8 #[.pointer (some ⟨p, 0, none⟩), .int .i64 k, .int .i64 x] w (StR base w p pb pj n) := by
  obtain ⟨S, A, op, C, L, hv, hb, he, hj⟩ := h
  obtain ⟨m, rfl⟩ : ∃ m : Nat, k = (m : Int) := ⟨k.toNat, by omega⟩
  exact (hv.top (by omega) (m : Int) x (in_small _ (by omega))).mono (fun e w' hm => hm.st hv (fun q hq => (hb q hq).1) hw hn (he.top m (by omega) x) hj (legs1 x hx 0 (m : Int) (by omega)))
theorem St.hold (h : St base tp w p pb pj n) (hw : base ≤ w.heap.size) (hn : n ≤ 100) (q : Int) (hq : q = 3 ∨ q = 4) (a : Option Addr) (cap : Nat) (hr : ReadsI w a 3 [1, 2, q]) (hc : 3 ≤ cap ∧ cap ≤ maxLen) (ha : ∀ y, a = some y → tp ≤ y.block) (a2 : Option Addr) (c2 : Nat) (hr2 : ReadsI w a2 3 [-1, -1, -1]) (x : Int) (hx : 1 ≤ x ∧ x ≤ 1000) :
    Calls Try.prog 13 #[.pointer (some ⟨p, 0, none⟩), .slice a 3 cap, .slice a2 3 c2, .int .i64 x] w (StR base w p pb pj n) := by
  obtain ⟨S, A, op, C, L, hv, hb, he, hj⟩ := h
  obtain ⟨hc1, hc2⟩ := hc
  unfold maxLen at hc2
  exact (hv.hold (by omega) a 3 cap [1, 2, q] a2 3 c2 [-1, -1, -1] x hr hc1 (by omega) hr2 (fun y e s => by have := (hb _ s).2; have := ha y e; omega)).mono (fun e w' hm => hm.st hv (fun q hq => (hb q hq).1) hw hn (he.hold q hq _ x) hj (legsN 2 x 0 q hx hq (by omega)))
theorem St.rel (h : St base tp w p pb pj n) (hw : base ≤ w.heap.size) (hn : n ≤ 100) (q : Int) (hq : q = 3 ∨ q = 4) (a : Option Addr) (cap : Nat) (hr : ReadsI w a 3 [1, 2, q]) (hc : 3 ≤ cap ∧ cap ≤ maxLen) (ha : ∀ y, a = some y → tp ≤ y.block) (x : Int) (hx : 1 ≤ x ∧ x ≤ 1000) :
    Calls Try.prog 15 #[.pointer (some ⟨p, 0, none⟩), .slice a 3 cap, .int .i64 x] w (StR base w p pb pj n) := by
  obtain ⟨S, A, op, C, L, hv, hb, he, hj⟩ := h
  obtain ⟨hc1, hc2⟩ := hc
  unfold maxLen at hc2
  exact (hv.rel (by omega) a 3 cap [1, 2, q] x hr hc1 (by omega) (fun y e s => by have := (hb _ s).2; have := ha y e; omega)).mono (fun e w' hm => hm.st hv (fun q hq => (hb q hq).1) hw hn (he.shift q hq _ _ _) hj (legsN 3 x 0 q hx hq (by omega)))
theorem St.com (h : St base tp w p pb pj n) (hw : base ≤ w.heap.size) (hn : n ≤ 100) (q : Int) (hq : q = 3 ∨ q = 4) (a : Option Addr) (cap : Nat) (hr : ReadsI w a 3 [1, 2, q]) (hc : 3 ≤ cap ∧ cap ≤ maxLen) (ha : ∀ y, a = some y → tp ≤ y.block) (x : Int) (hx : 1 ≤ x ∧ x ≤ 1000) :
    Calls Try.prog 14 #[.pointer (some ⟨p, 0, none⟩), .slice a 3 cap, .int .i64 x, .int .i64 1] w (StR base w p pb pj n) := by
  obtain ⟨S, A, op, C, L, hv, hb, he, hj⟩ := h
  obtain ⟨hc1, hc2⟩ := hc
  unfold maxLen at hc2
  exact (hv.com (by omega) a 3 cap [1, 2, q] x 1 (by omega) hr hc1 (by omega) (fun y e s => by have := (hb _ s).2; have := ha y e; omega)).mono (fun e w' hm => hm.st hv (fun q hq => (hb q hq).1) hw hn (he.shift q hq _ _ _) hj (legsN 4 x 1 q hx hq (by omega)))
theorem St.ref (h : St base tp w p pb pj n) (hw : base ≤ w.heap.size) (hn : n ≤ 100) (q : Int) (hq : q = 3 ∨ q = 4) (a : Option Addr) (cap : Nat) (hr : ReadsI w a 3 [1, 2, q]) (hc : 3 ≤ cap ∧ cap ≤ maxLen) (ha : ∀ y, a = some y → tp ≤ y.block) (x : Int) (hx : 1 ≤ x ∧ x ≤ 1000) :
    Calls Try.prog 21 #[.pointer (some ⟨p, 0, none⟩), .slice a 3 cap, .int .i64 x, .int .i64 1] w (StR base w p pb pj n) := by
  obtain ⟨S, A, op, C, L, hv, hb, he, hj⟩ := h
  obtain ⟨hc1, hc2⟩ := hc
  unfold maxLen at hc2
  exact (hv.ref (by omega) a 3 cap [1, 2, q] x 1 (by omega) hr hc1 (by omega) (fun y e s => by have := (hb _ s).2; have := ha y e; omega)).mono (fun e w' hm => hm.st hv (fun q hq => (hb q hq).1) hw hn (he.shift q hq _ _ _) hj (legsN 6 x 1 q hx hq (by omega)))
def StR2 (base : Nat) (w : World) (p pb pj n : Nat) (e : Ending) (w' : World) : Prop := (∃ E F : Int, e = .returned (.tuple #[.int .i64 E, .int .i64 F])) ∧ Only (fun q => base ≤ q) w w' ∧ St base w'.heap.size w' p pb pj (n + 1)
theorem St.roll (h : St base tp w p pb pj n) (ht : tp ≤ w.heap.size) (hw : base ≤ w.heap.size) (hn : n ≤ 100) (a : Option Addr) (cap : Nat) (hr : ReadsI w a 4 [1, 2, 3, 4]) (ha : ∀ y, a = some y → tp ≤ y.block) :
    Calls Try.prog 9 #[.pointer (some ⟨p, 0, none⟩), .slice a 4 cap] w (StR2 base w p pb pj n) := by
  obtain ⟨S, A, op, C, L, hv, hb, he, hj⟩ := h
  refine (proll_any a cap [1, 2, 3, 4] w hv (by omega) hr (fun y e s => by have := (hb _ s).2; have := ha y e; omega)).mono (fun e w' hm => ?_)
  rcases hm with ⟨_, rfl, ho⟩ | ⟨_, rfl, ho, S', xs, ys, hs, hx, hy, _, hv'⟩
  · refine ⟨⟨_, _, rfl⟩, ho.mono (fun _ _ f => f.elim), S, A, op, C, L, (hv.quiet ho).up (by omega), fun q hq => ⟨(hb q hq).1, ?_⟩, he, hj⟩
    have := (hb q hq).2
    have := ho.size
    omega
  · rw [exp4 he] at hx
    have hxs : xs = [] := List.map_eq_nil_iff.1 hx
    subst hxs
    have hys : ys = [] := List.map_eq_nil_iff.1 hy
    subst hys
    rw [List.append_nil] at hv'
    refine ⟨⟨_, _, rfl⟩, ho.mono (fun q _ s => (hb q s).1), S', _, op + 1, C, L, hv', fun q hq => ⟨?_, hv'.lt q hq⟩, he.roll, hj⟩
    rcases hs q hq with h | h
    · exact (hb q h).1
    · omega
/-- four accounts -/
theorem St.four (h : St base tp w p pb pj n) : ∃ a b c d : fnd.Ac, (fnd.Right a ∧ fnd.Right b ∧ fnd.Right c ∧ fnd.Right d) ∧ (a.h = b.h ∧ b.h = c.h + d.h ∧ a.u = b.u ∧ b.u = c.u + d.u) ∧ ∀ w', Only (fun _ => False) w w' →
    (Calls Try.prog 16 #[.pointer (some ⟨p, 0, none⟩), .int .i64 1] w' fun e w2 => e = .returned (fnd.aggA a) ∧ Only (fun _ => False) w' w2) ∧
    (Calls Try.prog 16 #[.pointer (some ⟨p, 0, none⟩), .int .i64 2] w' fun e w2 => e = .returned (fnd.aggA b) ∧ Only (fun _ => False) w' w2) ∧
    (Calls Try.prog 16 #[.pointer (some ⟨p, 0, none⟩), .int .i64 3] w' fun e w2 => e = .returned (fnd.aggA c) ∧ Only (fun _ => False) w' w2) ∧
    (Calls Try.prog 16 #[.pointer (some ⟨p, 0, none⟩), .int .i64 4] w' fun e w2 => e = .returned (fnd.aggA d) ∧ Only (fun _ => False) w' w2) := by
  obtain ⟨S, A, op, C, L, hv, hb, he, hj⟩ := h
  have hok := fun n => fnd.acG_ok hv.pu.bok n
  have g := fun (m : Nat) (hm : 1 ≤ m ∧ m ≤ 4) => acG4 (A := A) (m := m) (by omega)
  have g1 := g 1 (by omega)
  have g2 := g 2 (by omega)
  have g3 := g 3 (by omega)
  have g4' := g 4 (by omega)
  refine ⟨_, _, _, _, ⟨hok 1, hok 2, hok 3, hok 4⟩, ?_, fun w' ho => ⟨pget_any 1 w' (hv.quiet ho).pu, pget_any 2 w' (hv.quiet ho).pu, pget_any 3 w' (hv.quiet ho).pu, pget_any 4 w' (hv.quiet ho).pu⟩⟩
  have e1 : fnd.acG A 1 = A.getD 1 fnd.zA := g1
  have e2 : fnd.acG A 2 = A.getD 2 fnd.zA := g2
  have e3 : fnd.acG A 3 = A.getD 3 fnd.zA := g3
  have e4 : fnd.acG A 4 = A.getD 4 fnd.zA := g4'
  rw [e1, e2, e3, e4]
  exact ⟨he.h1, he.h2, he.u1, he.u2⟩
end
/-- the first four tops -/
def Af : Nat → List fnd.Ac
  | 0 => fnd.A0
  | k + 1 => fnd.topA (Af k) ((k + 1 : Nat) : Int) 1000
theorem Af_eq : ∀ k : Nat, k ≤ 4 → Eq4 (Af k)
  | 0, _ => Eq4.z
  | k + 1, h => (Af_eq k (by omega)).top (k + 1) (by omega) 1000
theorem Af_zero (k : Nat) : ∀ j : Nat, j ≤ k → k ≤ 4 → ∀ i, j < i → (Af j).getD i fnd.zA = fnd.zA ∧ (Af j).length = 33
  | 0, _, _, i, _ => ⟨A0_get4 i, Eq4.z.len⟩
  | j + 1, h, h4, i, hi => by
    have ih := Af_zero k j (by omega) h4 i (by omega)
    refine ⟨?_, (Af_eq (j + 1) (by omega)).len⟩
    show (fnd.topA (Af j) ((j + 1 : Nat) : Int) 1000).getD i fnd.zA = fnd.zA
    unfold fnd.topA
    split
    · rw [Int.toNat_natCast, getD_set4 _ _ _ _ (by rw [ih.2]; omega), if_neg (by omega)]; exact ih.1
    · exact ih.1
theorem Af_err (k : Nat) (h : k < 4) : fnd.topE (Af k) ((k + 1 : Nat) : Int) 1000 = 0 := by
  have h1 := (Af_zero k k (Nat.le_refl _) (by omega) (k + 1) (by omega)).1
  unfold fnd.topE
  rw [if_pos ⟨by unfold fnd.NodeOk; omega, by unfold fnd.AmtOk; omega⟩, acG4 (by omega), h1]
  rfl
/-- the tree -/
def T0 : List tre.Nd := List.replicate 33 default
def T1 : List tre.Nd := tre.putT T0 ⟨1, 0, 1, -1, false⟩
def T2 : List tre.Nd := tre.putT T1 ⟨2, 1, 2, -1, false⟩
def T3 : List tre.Nd := tre.putT T2 ⟨3, 2, 3, -1, false⟩
def T4 : List tre.Nd := tre.putT T3 ⟨4, 2, 3, -1, false⟩
def T4v : List tre.Nd := [default, ⟨1, 0, 1, -1, false⟩, ⟨2, 1, 2, -1, false⟩, ⟨3, 2, 3, -1, false⟩, ⟨4, 2, 3, -1, false⟩] ++ List.replicate 28 default
theorem T4_eq : T4 = T4v := by decide +kernel
end Go.Proofs.Ytkbaafgaaiekpaa.puw

namespace Go.Proofs.Ytkbaafgaaiekpaa.puw
open Go.RowKit mem entm
set_option linter.unusedVariables false

theorem T4_far (k : Nat) (h : ¬ (1 ≤ k ∧ k ≤ 4)) : T4v.getD k default = default := by
  match k with
  | 0 => rfl
  | 1 => omega
  | 2 => omega
  | 3 => omega
  | 4 => omega
  | k + 5 =>
    show (List.replicate 28 (default : tre.Nd)).getD k default = default
    rw [List.getD_eq_getElem?_getD, List.getElem?_replicate]
    split <;> rfl
theorem T4_inv : tre.Inv T4v := by
  intro k hk
  have h1 := tre.hasB_iff.1 hk
  have h2 : 1 ≤ k ∧ k ≤ 4 := Decidable.byContradiction fun e => by
    have := h1.2.2
    rw [Int.toNat_natCast, T4_far k e] at this
    exact this rfl
  have h3 : k = 1 ∨ k = 2 ∨ k = 3 ∨ k = 4 := by omega
  rcases h3 with rfl | rfl | rfl | rfl <;> decide
theorem path4 (q : Int) (hq : q = 3 ∨ q = 4) : tre.hasB T4v q = true ∧ tre.gotE T4v q = 0 ∧ tre.pathL T4v q = [1, 2, q] := by
  rcases hq with rfl | rfl
  · exact ⟨by decide, by decide, by decide⟩
  · exact ⟨by decide, by decide, by decide⟩
theorem bigpath4 (p : Nat) (q : Int) (hq : q = 3 ∨ q = 4) (w : World) (h : tre.TreeAt w p T4v) : Calls Try.prog 20 #[.pointer (some ⟨p, 0, none⟩), .int .i64 q] w fun e w' => ∃ a c, e = .returned (.tuple #[.slice a 3 c, .int .i64 0]) ∧ ReadsI w' a 3 [1, 2, q] ∧ (∀ y, a = some y → w.heap.size ≤ y.block) ∧ (3 ≤ c ∧ c ≤ maxLen) ∧ Only (fun _ => False) w w' := by
  obtain ⟨h1, h2, h3⟩ := path4 q hq
  refine (tre.bigpath_anyC p T4v q w h T4_inv).mono ?_
  rintro e w' ⟨⟨v, rfl, hv⟩, ho⟩
  rw [if_pos h1, h3] at hv
  obtain ⟨a, c, rfl, hr, hf, hc⟩ := hv
  rw [h2]
  exact ⟨a, c, rfl, hr, hf, hc, ho⟩
/-- a node made, as the law's tree is -/
theorem make4 {p : Nat} {T : List tre.Nd} (ni np nk nl : Int) {w : World} (h : tre.TreeAt w p T) : Calls Try.prog 18 #[.pointer (some ⟨p, 0, none⟩), .int .i64 ni, .int .i64 np, .int .i64 nk, .int .i64 nl] w fun e w' => (∃ E : Int, e = .returned (.int .i64 E)) ∧ tre.TreeAt w' p (tre.putT T ⟨ni, np, nk, nl, false⟩) ∧ Only (fun q => q = p) w w' :=
  (tre.create_any p T ni np nk nl w h).mono (fun e w' h => ⟨⟨_, h.1⟩, h.2⟩)
/-- an account's box, stored -/
theorem box4 {w0 w1 : World} {g : Nat} (a : fnd.Ac) (hf : tre.Five w0 g) (hw : w1 = tre.put50 w0 g (.int .i64 a.t) (.int .i64 a.c) (.int .i64 a.e) (.int .i64 a.u) (.int .i64 a.h)) : w1.cell? ⟨g, 3, none⟩ = some (.int .i64 a.u) ∧ w1.cell? ⟨g, 4, none⟩ = some (.int .i64 a.h) ∧ Only (fun q => q = g) w0 w1 := by
  have hp := hf.put (.int .i64 a.t) (.int .i64 a.c) (.int .i64 a.e) (.int .i64 a.u) (.int .i64 a.h)
  rw [hw]
  exact ⟨hp.2.2.2.1, hp.2.2.2.2, by rw [tre.put50_eq]; exact tre.put5_only _ _ _ _ _ _ _ _⟩
theorem read3 (w : World) (t : TypeId) (x y z : Int) (hx : entw.InI x) (hy : entw.InI y) (hz : entw.InI z) {w1 : World} {g : Nat} (hw : w1 = w.alloc (.cells #[.int .i64 x, .int .i64 y, .int .i64 z] t)) (hg : g = w.heap.size) : ReadsI w1 (some ⟨g, 0, none⟩) 3 [x, y, z] :=
  ⟨rfl, by unfold maxLen; omega, fun c hc => by simp at hc; rcases hc with rfl | rfl | rfl; exact hx; exact hy; exact hz, .inr ⟨g, 0, rfl, fun i hi => by
    have hi : i = 0 ∨ i = 1 ∨ i = 2 := by omega
    rcases hi with rfl | rfl | rfl
    · rw [hw]; exact tre.alloc_cell hg rfl
    · rw [hw]; exact tre.alloc_cell hg rfl
    · rw [hw]; exact tre.alloc_cell hg rfl⟩⟩
theorem read4 (w : World) (t : TypeId) (x y z u : Int) (hx : entw.InI x) (hy : entw.InI y) (hz : entw.InI z) (hu : entw.InI u) {w1 : World} {g : Nat} (hw : w1 = w.alloc (.cells #[.int .i64 x, .int .i64 y, .int .i64 z, .int .i64 u] t)) (hg : g = w.heap.size) : ReadsI w1 (some ⟨g, 0, none⟩) 4 [x, y, z, u] :=
  ⟨rfl, by unfold maxLen; omega, fun c hc => by simp at hc; rcases hc with rfl | rfl | rfl | rfl; exact hx; exact hy; exact hz; exact hu, .inr ⟨g, 0, rfl, fun i hi => by
    have hi : i = 0 ∨ i = 1 ∨ i = 2 ∨ i = 3 := by omega
    rcases hi with rfl | rfl | rfl | rfl
    · rw [hw]; exact tre.alloc_cell hg rfl
    · rw [hw]; exact tre.alloc_cell hg rfl
    · rw [hw]; exact tre.alloc_cell hg rfl
    · rw [hw]; exact tre.alloc_cell hg rfl⟩⟩
theorem St.grow {base : Nat} {w w' : World} {p pb pj n : Nat} (h : St base w.heap.size w p pb pj n) (ho : Only (fun _ => False) w w') : St base w'.heap.size w' p pb pj n := by
  obtain ⟨S, A, op, C, L, hv, hb, h2⟩ := h
  exact ⟨S, A, op, C, L, hv.quiet ho, fun q hq => ⟨(hb q hq).1, by have := (hb q hq).2; have := ho.size; omega⟩, h2⟩
/-- the sum of the balances, node by node -/
def bal5 (C : AcC → Option (List Int)) (k m g : Int) : Int := (jnw.ror C ⟨k, m, g⟩).sum
def part (C : AcC → Option (List Int)) : Nat → Int
  | 0 => bal5 C 1 0 0
  | k + 1 => part C k + bal5 C 2 ((k + 1 : Nat) : Int) 0 + bal5 C 3 ((k + 1 : Nat) : Int) 0 + bal5 C 4 ((k + 1 : Nat) : Int) 1 + bal5 C 5 ((k + 1 : Nat) : Int) 0
theorem part_all (C : AcC → Option (List Int)) : part C 4 = tot17 C := by
  have e : tot17 C = bal5 C 1 0 0 + (bal5 C 2 1 0 + (bal5 C 3 1 0 + (bal5 C 4 1 1 + (bal5 C 5 1 0 + (bal5 C 2 2 0 + (bal5 C 3 2 0 + (bal5 C 4 2 1 + (bal5 C 5 2 0 + (bal5 C 2 3 0 + (bal5 C 3 3 0 + (bal5 C 4 3 1 + (bal5 C 5 3 0 + (bal5 C 2 4 0 + (bal5 C 3 4 0 + (bal5 C 4 4 1 + (bal5 C 5 4 0 + 0)))))))))))))))) := rfl
  have e2 : part C 4 = bal5 C 1 0 0 + bal5 C 2 1 0 + bal5 C 3 1 0 + bal5 C 4 1 1 + bal5 C 5 1 0 + bal5 C 2 2 0 + bal5 C 3 2 0 + bal5 C 4 2 1 + bal5 C 5 2 0 + bal5 C 2 3 0 + bal5 C 3 3 0 + bal5 C 4 3 1 + bal5 C 5 3 0 + bal5 C 2 4 0 + bal5 C 3 4 0 + bal5 C 4 4 1 + bal5 C 5 4 0 := rfl
  rw [e, e2]
  omega
theorem bal_in {C : AcC → Option (List Int)} {n : Nat} (h : jnw.Bnd C (9007199254740992 * (n : Int))) (hn : n ≤ 50) (k m g : Int) : -450359962737049600 ≤ bal5 C k m g ∧ bal5 C k m g ≤ 450359962737049600 := by
  have h1 := (h ⟨k, m, g⟩).2.1
  unfold bal5
  omega
theorem part_in {C : AcC → Option (List Int)} {n : Nat} (h : jnw.Bnd C (9007199254740992 * (n : Int))) (hn : n ≤ 50) : ∀ k : Nat, -450359962737049600 * (1 + 4 * (k : Int)) ≤ part C k ∧ part C k ≤ 450359962737049600 * (1 + 4 * (k : Int))
  | 0 => by have := bal_in h hn 1 0 0; unfold part; omega
  | k + 1 => by
    have ih := part_in h hn k
    have h2 := bal_in h hn 2 ((k + 1 : Nat) : Int) 0
    have h3 := bal_in h hn 3 ((k + 1 : Nat) : Int) 0
    have h4 := bal_in h hn 4 ((k + 1 : Nat) : Int) 1
    have h5 := bal_in h hn 5 ((k + 1 : Nat) : Int) 0
    unfold part
    omega
/-- the journal's trial -/
theorem Pv.trial {S : Nat → Prop} {w : World} {p pb pj : Nat} {A : List fnd.Ac} {n op : Nat} {C : AcC → Option (List Int)} {L : List jnw.Ps} (h : Pv S w p pb pj A n op C L) (hn : n ≤ 50) (hj : Jk C L) : ∃ y : Int, Calls Try.prog 22 #[.pointer (some ⟨pj, 0, none⟩), .int .i64 (-1)] w fun e w' => e = .returned (.tuple #[.int .i64 y, .int .i64 y, .int .i64 0]) ∧ Only (fun _ => False) w w' := by
  obtain ⟨v9, m9, nn9, hjn⟩ := h.pu.jn
  have hl := h.ln
  obtain ⟨⟨y1, y2⟩, hy, hd⟩ := trP_some L (0, 0) hj.2 (by simp) (by simp) (by dsimp only; omega)
  dsimp only at hd
  have hyy : y2 = y1 := by omega
  subst hyy
  have e1 : jnw.triE op L (-1) = 0 := by unfold jnw.triE; rw [if_neg (by omega), hy]; rfl
  have e2 : jnw.triO op L (-1) = (y2, y2) := by unfold jnw.triO; rw [if_neg (by omega), hy]; rfl
  refine ⟨y2, (jnw.trial_any pj op v9 m9 nn9 C L (-1) w hjn).mono (fun e w' h => ?_)⟩
  rw [e1, e2] at h
  exact h
end Go.Proofs.Ytkbaafgaaiekpaa.puw

