/- Timers: the document's Due. -/
import Derived.Test.YtiohdfplgpmcdaaTmM
namespace Go.Proofs.Ytiohdfplgpmcdaa.tmw
open Go.RowKit mem rowz
set_option linter.unusedVariables false

theorem dw_split (now : Int) : ∀ (d r : List Tm), (∀ x ∈ d, x.a < now) → (r = [] ∨ ¬ (r.getD 0 default).a < now) → dueM now (d ++ r) = d ∧ leftM now (d ++ r) = r
  | [], r, _, hr => by
    rcases hr with rfl | hr
    · exact ⟨rfl, rfl⟩
    · cases r with
      | nil => exact ⟨rfl, rfl⟩
      | cons y s =>
        have hy : ¬ y.a < now := by simpa [List.getD] using hr
        unfold dueM leftM
        rw [List.nil_append, List.takeWhile_cons_of_neg (by simpa using hy), List.dropWhile_cons_of_neg (by simpa using hy)]
        exact ⟨rfl, rfl⟩
  | x :: d, r, hd, hr => by
    have hx : x.a < now := hd x List.mem_cons_self
    obtain ⟨e1, e2⟩ := dw_split now d r (fun y hy => hd y (List.mem_cons_of_mem _ hy)) hr
    unfold dueM leftM at *
    rw [List.cons_append, List.takeWhile_cons_of_pos (by simpa using hx), List.dropWhile_cons_of_pos (by simpa using hx), e1, e2]
    exact ⟨rfl, rfl⟩
def sLen : Option Value → Nat
  | some (.slice _ n _) => n
  | _ => 0
def RDue (p : Nat) (a : Option Addr) (m : List Tm) (now : Int) (w : World) (e : Ending) (w' : World) : Prop :=
  (∃ ad cd, e = .returned (.slice ad ((dueM now m).map Tm.i).length cd) ∧ ReadsI w' ad ((dueM now m).map Tm.i).length ((dueM now m).map Tm.i) ∧ ∀ y, ad = some y → w.heap.size ≤ y.block) ∧ (∃ a' c', UAt w' p a' c' (leftM now m) ∧ ∀ y, a' = some y → ∃ x, a = some x ∧ y.block = x.block) ∧ Only (fun q => q = p) w w'
set_option maxRecDepth 100000 in
set_option maxHeartbeats 4000000 in
theorem rdue_any (p : Nat) (a : Option Addr) (c : Nat) (m : List Tm) (now : Int) (w : World) (h : UAt w p a c m) (hin : ∀ x ∈ m, InK x.i) :
    Calls Try.prog 20 #[.pointer (some ⟨p, 0, none⟩), .int .i64 now] w (RDue p a m now w) := by
  obtain ⟨i1, hj, hy0, hy1, hy2⟩ := info_parts info_i64
  have HU := Lib.hid h
  have HIN := Lib.hid hin
  have hpw : p < w.heap.size := World.block_lt_of_cell? w _ h.1
  have HPW := Lib.hid hpw
  clear h hin hpw
  go_enter Try.func20, Try.ntmps20
  go_upto_block 0 with fail
  go_cut [5] from 6 to 40 (fun dv wx => ∃ (d r : List Tm) (a' : Option Addr) (c' : Nat), Hid (m = d ++ r) ∧ Hid (∀ x ∈ d, x.a < now) ∧ Hid (r = [] ∨ ¬ (r.getD 0 default).a < now) ∧ Hid (OwnI wx dv (d.map Tm.i))  ∧ Hid (∀ q, dv.ownBlock = some q → w.heap.size ≤ q) ∧ Hid (UAt wx p a' c' r) ∧ Hid (∀ y, a' = some y → ∃ x, a = some x ∧ y.block = x.block) ∧ Hid (Only (fun q => q = p) w wx))
  case first =>
    go_wp2_with fail
    go_loopw [5] (fun dv wr => ∃ (d r : List Tm) (v : Value) (a' : Option Addr) (c' : Nat), v = dv ∧ Hid (m = d ++ r) ∧ Hid (∀ x ∈ d, x.a < now) ∧ Hid (OwnI wr v (d.map Tm.i)) ∧ Hid (∀ q, v.ownBlock = some q → w.heap.size ≤ q) ∧ Hid (UAt wr p a' c' r) ∧ Hid (∀ y, a' = some y → ∃ x, a = some x ∧ y.block = x.block) ∧ Hid (Only (fun q => q = p) w wr)) (fun _ wr => sLen (wr.cell? ⟨p, 0, none⟩))
    case atStart => exact ⟨[], m, _, a, c, rfl, Lib.hid rfl, Lib.hid (fun x hx => by cases hx), Lib.hid (OwnI.nil _), Lib.hid (fun q e => by cases e), HU, Lib.hid (fun y e => ⟨y, e, rfl⟩), Lib.hid (Only.refl _ _)⟩
    case round =>
      obtain ⟨d, r, v, a', c', rfl, HM, HD, HV, HB, HR, HA, HO⟩ := hrel
      obtain ⟨u1, u2, u3, u4, u5, u6, u7, u8⟩ := HR.out
      have HU1 := Lib.hid u1
      have HU2 := Lib.hid u2
      have HPB := Lib.hid u4
      unfold maxLen at u6
      cases r with
      | nil =>
        clear u2 u3 u4 u5 u6 u7 u8
        change wr.cell? _ = some (.slice a' 0 c') at u1
        go_wp2_with fail
        go_meet
        exact ⟨d, [], a', c', HM, HD, Lib.hid (.inl rfl), HV, HB, HR, HA, HO⟩
      | cons x s =>
        obtain ⟨b, off, rfl, hcell⟩ := u3.2.resolve_left (by simp)
        have h0 := hcell 0 (by simp)
        rw [Nat.zero_mul, Nat.add_zero] at h0
        change wr.cell? ⟨b, off, none⟩ = some (.int .i64 x.i) ∧ wr.cell? ⟨b, off + 1, none⟩ = some (.int .i64 x.a) at h0
        obtain ⟨e0, e1⟩ := h0
        have HCL := Lib.hid hcell
        have hbp : b ≠ p := u4 _ rfl
        obtain ⟨n, hn⟩ : ∃ n, n = s.length := ⟨_, rfl⟩
        change wr.cell? _ = some (.slice _ (s.length + 1) c') at u1
        rw [← hn] at u1
        have u5' : n + 1 ≤ c' := by rw [hn]; exact u5
        have u7' : n + 1 ≤ 1000 := by rw [hn]; exact u7
        have HN := Lib.hid hn
        have HHI : Hid (¬ x.a < now → ((x :: s) = [] ∨ ¬ ((x :: s).getD 0 default).a < now)) := Lib.hid (fun h => .inr h)
        have HXA : Hid (x = ⟨x.a, x.i⟩) := Lib.hid rfl
        have HLX : Hid (d.length + 1 ≤ 1000) := Lib.hid (by have e := congrArg List.length HM.out; have := HU.out.2.2.2.2.2.2.1; rw [List.length_append] at e; simp only [List.length_cons] at e; omega)
        clear hn u2 u3 u4 u5 u7 u8 hcell
        generalize hxa : x.a = xa at *
        generalize hxi : x.i = xi at *
        by_cases hlt : xa < now
        · have HOX : Hid (OwnI (wr.alloc (.cells #[.int .i64 xi] 3)) v (d.map Tm.i)) := Lib.hid (HV.out.only ((Only.refl (fun _ => False) _).alloc _) (fun _ _ f => f))
          have HOW2 : Hid ((wr.alloc (.cells #[.int .i64 xi] 3)).ownsRow 0 3 1 v d.length (iv (d.map Tm.i))) := Lib.hid (by
            have h9 := HOX.out
            unfold OwnI at h9
            rw [List.length_map] at h9
            exact h9)
          have HD1 := HLX.out
          generalize hdl : d.length = dl at *
          have HDL := Lib.hid hdl
          clear hdl
          go_wp2_with (at_builtin; refine append_mine rfl _ _ 33 rfl 3 i1 _ 1 8 Try.underlying33 hj hy0 hy1 hy2 rfl (by decide) _ dl _ rfl HOW2.out ⟨wr.heap.size, 0, none⟩ 1 1 (iv [xi]) rfl ?c1 ?c2 ?c3 ?c4 ?c5 ?_)
          case c1 => rfl
          case c2 => exact (fun j u h => h)
          case c3 => exact iv_one [xi]
          case c4 => unfold maxLen; omega
          case c5 => omega
          intro v3 w3 hown hgrow hkk
          have HO3 : Hid (Only (fun q => v.ownBlock = some q) wr w3) := Lib.hid (((Only.refl (fun q => v.ownBlock = some q) wr).alloc _).trans (Only.of_grown hgrow))
          have hpn : ∀ q, v.ownBlock = some q → q ≠ p := fun q e h => by have := HB.out q e; have := HPW.out; omega
          have hp3 := HO3.out.cell' HU1.out (fun e => hpn p e rfl)
          have hf3 : w3.frozen? ⟨p, 0, none⟩ = false := by rw [HO3.out.frozen (World.block_lt_of_cell? wr _ HU1.out) (fun e => hpn p e rfl)]; exact HU2.out
          have HTK : Hid ((d ++ [x]).map Tm.i = d.map Tm.i ++ [xi]) := Lib.hid (by rw [List.map_append, ← hxi]; rfl)
          have HON : Hid (OwnI w3 v3 ((d ++ [x]).map Tm.i)) := Lib.hid (by unfold OwnI; rw [HTK.out, List.length_append, List.length_map, HDL.out, iv_append]; exact hown)
          have HB3 : Hid (∀ q, v3.ownBlock = some q → w.heap.size ≤ q) := Lib.hid (fun q hq => by
            rcases hkk q hq with e | e
            · exact HB.out q e
            · have h5 : wr.heap.size ≤ q := by first | omega | (simp only [size_alloc] at e; omega)
              have := HO.out.size
              omega)
          have HOW3 : Hid (Only (fun q => q = p) w w3) := Lib.hid (HO.out.then HO3.out (fun q hq e => by have := HB.out q e; omega))
          have HCS : Hid (∀ k, k < s.length → w3.cell? ⟨b, off + 2 + k * 2, none⟩ = some (.int .i64 (s.getD k default).i) ∧ w3.cell? ⟨b, off + 2 + k * 2 + 1, none⟩ = some (.int .i64 (s.getD k default).a)) := Lib.hid (fun k hk => by
            have hb : ¬ v.ownBlock = some b := fun e => by
              obtain ⟨y, hy, e2⟩ := HA.out _ rfl
              have h9 := HB.out b e
              obtain ⟨b0, off0, hb0, hc0⟩ := HU.out.2.2.1.2.resolve_left (by have e3 := congrArg List.length HM.out; rw [List.length_append] at e3; simp only [List.length_cons] at e3; omega)
              have hy0 : y = ⟨b0, off0, none⟩ := by rw [hy] at hb0; exact Option.some.inj hb0
              have h10 : b = b0 := by rw [hy0] at e2; exact e2
              have h11 : b0 < w.heap.size := World.block_lt_of_cell? w _ (hc0 0 (by have e3 := congrArg List.length HM.out; rw [List.length_append] at e3; simp only [List.length_cons] at e3; omega)).1
              omega
            obtain ⟨q0, q1⟩ := HCL.out (k + 1) (by simp only [List.length_cons]; omega)
            have e4 : (x :: s).getD (k + 1) default = s.getD k default := by simp [List.getD]
            rw [e4] at q0 q1
            rw [show off + (k + 1) * 2 = off + 2 + k * 2 by omega] at q0 q1
            exact ⟨HO3.out.cell' q0 hb, HO3.out.cell' q1 hb⟩)
          have HM3 : Hid (m = (d ++ [x]) ++ s) := Lib.hid (by rw [HM.out, List.append_assoc]; rfl)
          have HD3 : Hid (∀ y ∈ d ++ [x], y.a < now) := Lib.hid (fun y hy => by
            rcases List.mem_append.1 hy with hy | hy
            · exact HD.out y hy
            · have : y = x := by simpa using hy
              rw [this, hxa]; exact hlt)
          clear hown hgrow hkk HOX HOW2 HTK
          obtain ⟨ad, had⟩ : ∃ ad, ad = (if c' = 1 then some (⟨b, off, none⟩ : Addr) else some ⟨b, off + 2, none⟩) := ⟨_, rfl⟩
          have HADB : Hid (∀ y, ad = some y → y.block = b) := Lib.hid (fun y e => by
            rw [had] at e
            split at e
            · rw [← Option.some.inj e]
            · rw [← Option.some.inj e])
          have HADR : Hid (s.length = 0 ∨ ad = some ⟨b, off + 2, none⟩) := Lib.hid (by
            by_cases h : c' = 1
            · left; have := HN.out; omega
            · right; rw [had, if_neg h])
          have HADN : Hid (ad ≠ none) := Lib.hid (by rw [had]; split <;> simp)
          obtain ⟨W9, hW9⟩ : ∃ W, W = w3.setCell ⟨p, 0, none⟩ (.slice ad s.length (c' - 1)) := ⟨_, rfl⟩
          have HST : Hid (Only (fun x => x = p) w3 W9) := Lib.hid (by rw [hW9]; exact Only.set (fun x => x = p) w3 p 0 _ rfl)
          have HC9 : Hid (W9.cell? ⟨p, 0, none⟩ = some (.slice ad s.length (c' - 1))) := Lib.hid (by rw [hW9]; exact cell_same hp3)
          have HF9 : Hid (W9.frozen? ⟨p, 0, none⟩ = false) := Lib.hid (by rw [hW9]; exact frozen_set.trans hf3)
          have HU9 : Hid (UAt W9 p ad (c' - 1) s) := Lib.hid ⟨HC9.out, HF9.out, ⟨rfl, HADR.out.imp id fun e => ⟨b, off + 2, e, fun k hk => ⟨HST.out.cell' (HCS.out k hk).1 hbp, HST.out.cell' (HCS.out k hk).2 hbp⟩⟩⟩, fun y e => by rw [HADB.out y e]; exact hbp, by have := HN.out; omega, by unfold maxLen; omega, by have := HN.out; omega, fun e => absurd e HADN.out⟩
          have HON9 : Hid (OwnI W9 v3 ((d ++ [x]).map Tm.i)) := Lib.hid (HON.out.only HST.out (fun q e h => by have := HB3.out q e; have := HPW.out; omega))
          have HO9 : Hid (Only (fun q => q = p) w W9) := Lib.hid (HOW3.out.trans HST.out)
          have HA9 : Hid (∀ y, ad = some y → ∃ x, a = some x ∧ y.block = x.block) := Lib.hid (fun y e => by
            obtain ⟨x9, hx9, e9⟩ := HA.out _ rfl
            exact ⟨x9, hx9, by rw [HADB.out y e]; exact e9⟩)
          have HLEN : Hid (sLen (wr.cell? ⟨p, 0, none⟩) = n + 1 ∧ sLen (W9.cell? ⟨p, 0, none⟩) = s.length) := Lib.hid ⟨by rw [HU1.out]; show (x :: s).length = _; rw [HN.out]; rfl, by rw [HC9.out]; rfl⟩
          clear HO3 hpn HON HB HOW3 HCS HST
          go_wp2_with fail
          rw [← had, ← hW9]
          go_roundw
          case rel => exact ⟨d ++ [x], s, v3, ad, c' - 1, rfl, HM3, HD3, HON9, HB3, HU9, HA9, HO9⟩
          case measure => rw [HLEN.out.1, HLEN.out.2, HN.out]; omega
        · go_wp2_with fail
          go_meet
          exact ⟨d, x :: s, _, c', HM, HD, Lib.hid (HHI.out hlt), HV, HB, HR, HA, HO⟩
  case rest =>
    obtain ⟨d, r, a', c', HM, HD, HE, HV, HB, HU9, HA, HO⟩ := hcut
    obtain ⟨e1, e2⟩ := dw_split now d r HD.out HE.out
    rw [← HM.out] at e1 e2
    have hl : (d.map Tm.i).length ≤ 1000000 := by
      have e := congrArg List.length HM.out
      have := HU.out.2.2.2.2.2.2.1
      rw [List.length_append] at e
      rw [List.length_map]
      omega
    obtain ⟨ad, cd, rfl, hr⟩ := HV.out.reads (fun c hc => by
      obtain ⟨x, hx, rfl⟩ := List.mem_map.1 hc
      exact HIN.out x (by rw [HM.out]; exact List.mem_append.2 (.inl hx))) hl
    have HQ : Hid (RDue p a m now w (.returned (.slice ad (d.map Tm.i).length cd)) wc) := Lib.hid ⟨⟨ad, cd, by rw [e1], by rw [e1]; exact hr, fun y e => by subst e; exact HB.out y.block rfl⟩, ⟨a', c', by rw [e2]; exact HU9.out, HA.out⟩, HO.out⟩
    clear e1 e2 hl hr HV HB HM HD HE
    go_wp2_with fail
    go_ret
    exact HQ.out
end Go.Proofs.Ytiohdfplgpmcdaa.tmw
