/- Several texts together: PuK, PuL. -/
import Derived.Test.YtkbaafgaaiekpaaGreatPeriodRestoresZ1
import Derived.Test.YtkbaafgaaiekpaaGreatPeriodRestoresZ31
open List (getElem_toArray getElem_cons_zero getElem_cons_succ setIfInBounds_toArray set_cons_zero set_cons_succ)
open Go.Lib (hid)
namespace Go.Proofs.YtkbaafgaaiekpaaGreat.puw
open Go.RowKit mem
set_option linter.unusedVariables false
structure Xe where
  b : Nat
  cp : Nat
  n : Int
  av : Int
deriving Inhabited
def exL (n av : Int) : List entm.Lg := [⟨2, n, 0, av⟩, ⟨5, n, 0, -av⟩]
def encX (x : Xe) : List Value := [.int .i64 5, .slice (some ⟨x.b, 0, none⟩) 2 x.cp]
def xv (l : List Xe) : List Value := l.flatMap encX
theorem xv_cons (x : Xe) (r : List Xe) : xv (x :: r) = encX x ++ xv r := by simp [xv]
theorem xv_append (a b : List Xe) : xv (a ++ b) = xv a ++ xv b := by simp [xv]
theorem xv_one (l : List Xe) : ∀ u ∈ xv l, u.oneCell' = true := by
  intro u hu; simp only [xv, List.mem_flatMap] at hu; obtain ⟨x, _, hx⟩ := hu; simp [encX] at hx; rcases hx with rfl | rfl <;> rfl
theorem xv_drop : ∀ (l : List Xe) (k : Nat), (xv l).drop (k * 2) = xv (l.drop k) := by
  intro l
  induction l with
  | nil => intro k; simp [xv]
  | cons x r ih =>
    intro k; cases k with
    | zero => simp [xv]
    | succ k =>
      have e : (k + 1) * 2 = k * 2 + 2 := (by omega); rw [e, List.drop_succ_cons, xv_cons, ← ih k]
      rfl
theorem xv_get (l : List Xe) (i c : Nat) (hi : i < l.length) (hc : c < 2) : (xv l)[i * 2 + c]? = (encX (l.getD i default))[c]? := by
  have h : l.drop i = l.getD i default :: l.drop (i + 1) := (by rw [List.drop_eq_getElem_cons hi]; simp [List.getD, hi]); rw [← List.getElem?_drop, xv_drop, h, xv_cons, List.getElem?_append_left (by show c < 2; exact hc)]
def OwnX (w : World) (v : Value) (l : List Xe) : Prop := w.ownsRow 0 67 2 v l.length (xv l)
theorem OwnX.nil (w : World) : OwnX w (.slice none 0 0) [] := World.ownsRow_nil _ _ _ _
theorem OwnX.only {S : Nat → Prop} {w w' : World} {v : Value} {l : List Xe} (h : OwnX w v l) (ho : Only S w w') (hs : ∀ k, v.ownBlock = some k → ¬ S k) : OwnX w' v l := owns_only ho h hs
theorem OwnX.lt {w : World} {v : Value} {l : List Xe} (h : OwnX w v l) {q : Nat} (hq : v.ownBlock = some q) : q < w.heap.size := by
  rcases h.2 with ⟨hv, hn⟩ | ⟨g, cap, cur, hv, hg, hh, _⟩
  · rw [hv] at hq; simp [Value.ownBlock] at hq
  · rw [hv] at hq; have e : g = q := (by simpa [Value.ownBlock] using hq); rw [← e]; exact heap_lt hh
def ReadsX (w : World) (a : Option Addr) (len : Nat) (l : List Xe) : Prop := l.length = len ∧ (len = 0 ∨ ∃ g, a = some ⟨g, 0, none⟩ ∧ ∀ k, k < len → w.cell? ⟨g, k * 2, none⟩ = some (.int .i64 5) ∧ w.cell? ⟨g, k * 2 + 1, none⟩ = some (.slice (some ⟨(l.getD k default).b, 0, none⟩) 2 (l.getD k default).cp))
theorem OwnX.reads {w : World} {v : Value} {l : List Xe} (h : OwnX w v l) : ∃ a cap, v = .slice a l.length cap ∧ l.length ≤ cap ∧ cap ≤ maxLen ∧ ReadsX w a l.length l ∧ ∀ y, a = some y → v.ownBlock = some y.block := by
  have h0 := h; rcases h.2 with ⟨hv, hn⟩ | ⟨g, cap, cur, hv, hg, hh, hc, hm, _⟩
  · have hl : l = [] := List.eq_nil_of_length_eq_zero hn; subst hl; exact ⟨none, 0, hv, Nat.le_refl _, by unfold maxLen; omega, ⟨rfl, .inl rfl⟩, fun y e => by cases e⟩
  · refine ⟨_, cap, hv, hc, hm, ⟨rfl, .inr ⟨g, rfl, fun k hk => ?_⟩⟩, fun y e => by cases e; rw [hv]; rfl⟩; have h1 : w.ownsRow 0 67 2 (.slice (some ⟨g, 0, none⟩) l.length cap) l.length (xv l) := (by rw [← hv]; exact h0); have e : ∀ c, c < 2 → w.cell? ⟨g, k * 2 + c, none⟩ = (encX (l.getD k default))[c]? := fun c hc => by
      rw [h1.cellAt (k * 2 + c) (by omega), xv_get l k c hk hc]
    exact ⟨e 0 (by omega), e 1 (by omega)⟩
theorem ReadsX.only {S : Nat → Prop} {w w' : World} {a : Option Addr} {len : Nat} {l : List Xe} (h : ReadsX w a len l) (ho : Only S w w') (hs : ∀ x, a = some x → ¬ S x.block) : ReadsX w' a len l := by
  refine ⟨h.1, h.2.imp (fun x => x) fun ⟨g, e, hc⟩ => ⟨g, e, fun k hk => ?_⟩⟩; obtain ⟨c0, c1⟩ := hc k hk; have hn : ¬ S g := hs _ e; exact ⟨ho.cell' c0 hn, ho.cell' c1 hn⟩
theorem info_en : (Tryz.prog.info? 67).map (fun i => (i.zero, i.size, i.bytes)) = some (some (Value.agg #[.int .i64 0, .slice none 0 0]), 2, 32) := by kernel_rfl
theorem infoX {o : Option TypeInfo} {z : Value} {a b : Nat} (h : o.map (fun i => (i.zero, i.size, i.bytes)) = some (some z, a, b)) : ∃ i, o = some i ∧ i.zero = some z ∧ i.size = a ∧ i.bytes = b := by
  cases o with
  | none => cases h
  | some i =>
    simp only [Option.map_some, Option.some.injEq, Prod.mk.injEq] at h; exact ⟨i, rfl, h.1, h.2.1, h.2.2⟩
def XOk (W0 : Nat) (w : World) (x : Xe) : Prop := W0 ≤ x.b ∧ x.b < w.heap.size ∧ entw.ReadsL w (some ⟨x.b, 0, none⟩) 2 (exL x.n x.av) ∧ (1 ≤ x.n ∧ x.n ≤ 32) ∧ (1 ≤ x.av ∧ x.av ≤ 9007199254740992)
theorem XOk.only {S : Nat → Prop} {W0 : Nat} {w w' : World} {x : Xe} (h : XOk W0 w x) (ho : Only S w w') (hs : ¬ S x.b) : XOk W0 w' x :=
  ⟨h.1, by have := h.2.1; have := ho.size; omega, h.2.2.1.only ho (fun y e => by cases e; exact hs), h.2.2.2⟩
theorem XOk.quiet {W0 : Nat} {w w' : World} {x : Xe} (h : XOk W0 w x) (ho : Only (fun _ => False) w w') : XOk W0 w' x := h.only ho (fun f => f)
def expN (A : List fnd.Ac) (carry : List Int) (ns : List Int) : List (Int × Int) := ns.flatMap fun n => if fnd.left (fnd.acG A n) = 0 ∨ carry.contains n = true then [] else [(n, fnd.left (fnd.acG A n))]
theorem expN_snoc (A : List fnd.Ac) (carry ns : List Int) (n : Int) : expN A carry (ns ++ [n]) = expN A carry ns ++ (if fnd.left (fnd.acG A n) = 0 ∨ carry.contains n = true then [] else [(n, fnd.left (fnd.acG A n))]) := by
  unfold expN; rw [List.flatMap_append]; simp
theorem expN_len (A : List fnd.Ac) (carry : List Int) : ∀ ns : List Int, (expN A carry ns).length ≤ ns.length
  | [] => Nat.le_refl _
  | n :: r => by
    have ih := expN_len A carry r; have e : expN A carry (n :: r) = (if fnd.left (fnd.acG A n) = 0 ∨ carry.contains n = true then [] else [(n, fnd.left (fnd.acG A n))]) ++ expN A carry r := by simp [expN]
    rw [e, List.length_append, List.length_cons]; split
    · simp; omega
    · simp; omega
def Xs (l : List Xe) : List (Int × Int) := l.map fun x => (x.n, x.av)
def ExpR (A : List fnd.Ac) (carry : List Int) (w : World) (e : Ending) (w' : World) : Prop := ∃ v xs, e = .returned v ∧ OwnX w' v xs ∧ Xs xs = expN A carry (fnd.nodU A 33) ∧ (∀ x ∈ xs, XOk w.heap.size w' x) ∧ (∀ q, v.ownBlock = some q → w.heap.size ≤ q ∧ ∀ x ∈ xs, x.b ≠ q) ∧ Only (fun _ => False) w w'
theorem take_snocI (l : List Int) (k : Nat) (h : k < l.length) : l.take (k + 1) = l.take k ++ [l.getD k 0] := by
  rw [List.take_add_one, List.getElem?_eq_getElem h, List.getD_eq_getElem?_getD, List.getElem?_eq_getElem h]; rfl
theorem nodU_ok {A : List fnd.Ac} (hA : fnd.Bok A) : ∀ c ∈ fnd.nodU A 33, fnd.NodeOk c := by
  intro c hc; unfold fnd.nodU at hc; rw [List.mem_map] at hc; obtain ⟨j, hj, rfl⟩ := hc; rw [List.mem_filter] at hj; have h1 := List.mem_range.1 hj.1; have h2 : j ≠ 0 := fun e => by
    have := hj.2; rw [e, hA.z] at this; simp at this
  unfold fnd.NodeOk; omega
theorem make5 (n av : Int) (hn : 1 ≤ n ∧ n ≤ 32) (ha : 1 ≤ av ∧ av ≤ 9007199254740992) (a : Option Addr) (cap : Nat) (w : World) (h : ReadsI w a 1 [n]) (hc : 1 ≤ cap) (hcm : cap ≤ 9223372036854775807) :
    Calls Tryz.prog 70 #[.int .i64 5, .int .i64 av, .slice a 1 cap, .int .i64 0] w fun e w' => Only (fun _ => False) w w' ∧ ∃ b cp, w.heap.size ≤ b ∧ b < w'.heap.size ∧ entw.ReadsL w' (some ⟨b, 0, none⟩) 2 (exL n av) ∧ e = .returned (.tuple #[.agg #[.int .i64 5, .slice (some ⟨b, 0, none⟩) 2 cp], .int .i64 0]) := by
  have hg : Good 5 av 0 [n] := ⟨by omega, ha, by simp, by simp, fun m hm => by rw [List.mem_singleton] at hm; rw [hm]; exact hn, fun _ => rfl, fun h => by omega⟩; refine (mkd_any 5 av 0 gr0_in a 1 cap [n] w h hc hcm).mono ?_; rintro e w' ⟨ho, ⟨er, hne, rfl, hno⟩ | ⟨b, cp, ls, h1, h2, h3, h4, h5, h6, rfl⟩⟩
  · exact absurd (hg.no jnw.Bnd.nil (by omega) (hno _)) hne
  · have hl : ls = exL n av := perm_two (by rw [← raw5]; exact h2) h3 (by unfold entm.ltA; simp); subst hl; refine ⟨ho, b, cp, h5, ?_, h6, rfl⟩; obtain ⟨b2, off, e, hcc⟩ := h6.2.2.2.resolve_left (by show ¬ 2 = 0; omega); injection e with e; injection e with e1 e2; subst e1; exact World.block_lt_of_cell? w' _ (hcc 0 (by show 0 < 2; omega)).1
set_option maxRecDepth 100000 in
set_option maxHeartbeats 8000000 in
theorem expiring_any {S : Nat → Prop} {p pb pj : Nat} {A : List fnd.Ac} {op : Nat} {C : AcC → Option (List Int)} {L : List jnw.Ps} (a : Option Addr) (cap : Nat) (carry : List Int) (w : World) (h : Pu S w p pb pj A op C L) (hr : ReadsI w a carry.length carry) :
    Calls Tryz.prog 29 #[.pointer (some ⟨p, 0, none⟩), .slice a carry.length cap] w (ExpR A carry w) := by
  have HPU := hid h; have HR := hid hr; have c0 := h.c0; have HN := hid (fnd.nodes_any pb A w h.bk h.bok); obtain ⟨i0, hi0, hi1, hi2, hi3⟩ := infoX info_en; obtain ⟨ln, hln⟩ : ∃ x, carry.length = x := ⟨_, rfl⟩; have HLN := hid hln; rw [hln]; clear h hr hln; go_enter Tryz.func29, Tryz.ntmps29
  (go_wp2_with fail); refine HN.out.mono ?_; rintro _ w1 ⟨⟨_, rfl, an, cn, rfl, hrn, -⟩, ho1⟩; have HRN := hid hrn; have HO1 := hid ho1; have HNI := hid (nodU_ok HPU.out.bok); obtain ⟨ns, hns⟩ : ∃ x, fnd.nodU A 33 = x := ⟨_, rfl⟩; have HNS := hid hns; rw [hns] at HRN HNI; rw [hns]; obtain ⟨nn, hnn⟩ : ∃ x, ns.length = x := ⟨_, rfl⟩; have HNN := hid hnn; have hn33 : nn ≤ 33 := (by rw [← hnn, ← hns]; exact fnd.nodU_len A 33); rw [hnn] at HRN; (try rw [hnn]); clear ho1 HN hrn hns hnn c0; go_wp2_with fail
  go_loopw [5, 17] (fun vv iv wx => ∃ (i : Nat) (xs : List Xe), i ≤ nn ∧ iv = .int .i64 (i : Int) ∧ Hid (OwnX wx vv xs) ∧ Hid (Xs xs = expN A carry (ns.take i)) ∧ Hid (∀ x ∈ xs, XOk w.heap.size wx x) ∧ Hid (∀ q, vv.ownBlock = some q → w1.heap.size ≤ q ∧ ∀ x ∈ xs, x.b ≠ q) ∧ Hid (Only (fun _ => False) w1 wx)) (fun _ iv _ => nn - (intOf iv).toNat)
  case atStart => exact ⟨0, [], by omega, rfl, hid (OwnX.nil _), hid rfl, hid (fun x hx => by cases hx), hid (fun q e => by simp [Value.ownBlock] at e), hid (Only.refl _ _)⟩
  case round =>
    obtain ⟨i, xs, hi, rfl, HOW, HXS, HXO, HVB, HX⟩ := hrel; rename World => wx
    by_cases h8 : i < nn
    · have hin : (i : Int) < (nn : Int) := (by omega); have hi0' : (0 : Int) ≤ (i : Int) := (by omega); obtain ⟨b, off, rfl, hcell⟩ := HRN.out.2.2.2.resolve_left (by omega); have hci := HX.out.cell' (hcell i h8) (fun f => f); have c0 := (HO1.out.trans HX.out).cell' HPU.out.c0 (fun f => f); have HNX := hid (expN_snoc A carry (ns.take i) (ns.getD i 0)); rw [← take_snocI ns i (by rw [HNN.out]; exact h8)] at HNX; have hnd := HNI.out (ns.getD i 0) (by rw [List.getD_eq_getElem?_getD, List.getElem?_eq_getElem (by rw [HNN.out]; exact h8)]; exact List.getElem_mem _); obtain ⟨ni, hni⟩ : ∃ x, ns.getD i 0 = x := ⟨_, rfl⟩; rw [hni] at hci HNX hnd; have hrg := fnd.acG_ok HPU.out.bok ni; have hlv : 0 ≤ fnd.left (fnd.acG A ni) := hrg.2.2; have hlm := hrg.left_M; have HAV := hid (fnd.available_any pb A ni wx (HPU.out.bk.only (HO1.out.trans HX.out) (fun f => f)) HPU.out.bok); obtain ⟨av, hav⟩ : ∃ x, fnd.left (fnd.acG A ni) = x := ⟨_, rfl⟩; rw [hav] at HNX hlv hlm HAV; clear hcell hni hrg hav; (go_wp2_with fail); refine HAV.out.mono ?_; rintro _ w2 ⟨rfl, ho2⟩; have HX2 := hid (HX.out.trans ho2); have HOW2 := hid (HOW.out.only ho2 (fun _ _ f => f)); have HXO2 : Hid (∀ x ∈ xs, XOk w.heap.size w2 x) := hid (fun x hx => (HXO.out x hx).quiet ho2); have HCT : Hid (Calls Tryz.prog 34 #[.slice a ln cap, .int .i64 ni] w2 fun e w' => e = .returned (.bool (carry.contains ni)) ∧ w2 = w') := hid (by
        rw [← HLN.out]; exact tre.contains_any a cap carry ni w2 (HR.out.only (HO1.out.trans HX2.out) (fun _ _ f => f)))
      clear ho2 HAV HX HOW HXO hci c0; by_cases ha0 : av = 0
      · subst ha0; have HXN : Hid (Xs xs = expN A carry (ns.take (i + 1))) := hid (by rw [HNX.out, if_pos (.inl rfl), List.append_nil]; exact HXS.out); clear HNX HXS HCT; (go_wp2_with fail); go_roundw
        case rel => exact ⟨i + 1, xs, by omega, by go_num, HOW2, HXN, HXO2, HVB, HX2⟩
        case measure => (simp [intOf]; omega)
      · have hab : (av == 0) = false := (by rw [beq_eq_false_iff_ne]; exact ha0); obtain ⟨ct, hct⟩ : ∃ x, carry.contains ni = x := ⟨_, rfl⟩; rw [hct] at HCT HNX; cases ct
        · have HXN : Hid (expN A carry (ns.take (i + 1)) = Xs xs ++ [(ni, av)]) := hid (by rw [HNX.out, if_neg (fun h => h.elim ha0 (by simp)), HXS.out]); obtain ⟨w3, hw3⟩ : ∃ x, x = w2.alloc (.cells #[.int .i64 ni] 3) := ⟨_, rfl⟩; obtain ⟨g3, hg3⟩ : ∃ x, x = w2.heap.size := ⟨_, rfl⟩; have ho3 : Only (fun _ => False) w2 w3 := (by rw [hw3]; exact (Only.refl _ _).alloc _); have HMK := hid (make5 ni av hnd ⟨by omega, hlm⟩ (some ⟨g3, 0, none⟩) 1 w3 (read1 w2 3 ni (by unfold entw.InI; obtain ⟨h1, h2⟩ := hnd; omega) hw3 hg3) (by omega) (by omega)); have HX3 := hid (HX2.out.trans ho3); have HOW3 := hid (HOW2.out.only ho3 (fun _ _ f => f)); have HXO3 : Hid (∀ x ∈ xs, XOk w.heap.size w3 x) := hid (fun x hx => (HXO2.out x hx).quiet ho3); have HND := hid hnd; clear ho3 HX2 HOW2 HXO2 HNX HXS hct hnd; (go_wp2_with fail); refine HCT.out.mono ?_; rintro _ _ ⟨rfl, rfl⟩; (go_wp2_with fail); (try simp only [← hw3, ← hg3]); clear hw3 hg3 HCT; refine HMK.out.mono ?_; rintro _ w5 ⟨ho5, b5, c5, hb5, hb5', hr5, rfl⟩; obtain ⟨w6, hw6⟩ : ∃ x, x = w5.alloc (.cells #[.int .i64 5, .slice (some ⟨b5, 0, none⟩) 2 c5] 67) := ⟨_, rfl⟩; obtain ⟨g6, hg6⟩ : ∃ x, x = w5.heap.size := ⟨_, rfl⟩; have ho6 : Only (fun _ => False) w5 w6 := (by rw [hw6]; exact (Only.refl _ _).alloc _); have e0 : w6.cell? ⟨g6, 0, none⟩ = some (.int .i64 5) := (by rw [hw6]; exact tre.alloc_cell hg6 rfl); have e1 : w6.cell? ⟨g6, 1, none⟩ = some (.slice (some ⟨b5, 0, none⟩) 2 c5) := (by rw [hw6]; exact tre.alloc_cell hg6 rfl); have HX6 := hid (HX3.out.trans (ho5.trans ho6)); have HOW6 := hid (HOW3.out.only (ho5.trans ho6) (fun _ _ f => f)); have HXO6 : Hid (∀ x ∈ xs, XOk w.heap.size w6 x) := hid (fun x hx => (HXO3.out x hx).quiet (ho5.trans ho6)); have HX5N : Hid (XOk w.heap.size w6 ⟨b5, c5, ni, av⟩) := hid ⟨by have := HX3.out.size; have := HO1.out.size; show w.heap.size ≤ b5; omega, by have := ho6.size; show b5 < w6.heap.size; omega, hr5.only ho6 (fun _ _ f => f), HND.out, by show 1 ≤ av; omega, hlm⟩; have HVB5 : Hid (∀ q, u5.ownBlock = some q → b5 ≠ q) := hid (fun q e => by have := HOW3.out.lt e; omega); have hxl : xs.length ≤ 100 := by
            have h1 := congrArg List.length HXN.out; rw [List.length_append] at h1; have h2 := expN_len A carry (ns.take (i + 1)); rw [List.length_take] at h2; have h3 : (Xs xs).length = xs.length := (by unfold Xs; rw [List.length_map]); simp at h1; omega
          clear ho5 ho6 hb5 hb5' hr5 HMK HX3 HOW3 HXO3; (go_upto_region 8 with fail); simp only [← hw6, ← hg6]; clear hw6 hg6; have HPW : Hid (∀ o, OwnX (w6.alloc o) u5 xs) := hid (fun o => HOW6.out.only (S := fun _ => False) ((Only.refl _ _).alloc _) (fun _ _ f => f)); go_wp2_with (at_builtin; refine append_mine rfl _ _ 64 rfl 67 i0 _ 2 32 Tryz.underlying64 hi0 hi1 hi2 hi3 rfl (by decide) u5 xs.length _ rfl (HPW.out _) ⟨w6.heap.size, 0, none⟩ 1 1 (encX ⟨b5, c5, ni, av⟩) rfl ?k1 ?k2 ?k3 ?k4 ?k5 ?_)
          case k1 => rfl
          case k2 =>
            intro j u hu; rw [add_none]; refine tre.alloc_cell rfl ?_
            simpa [encX] using hu
          case k3 => exact (fun u hu => xv_one [⟨b5, c5, ni, av⟩] u (by simpa [xv] using hu))
          case k4 => unfold maxLen; omega
          case k5 => omega
          intro v9 w9 hown hgrow hkk; have HOW9 : Hid (OwnX w9 v9 (xs ++ [⟨b5, c5, ni, av⟩])) := hid (by
            unfold OwnX; rw [List.length_append, xv_append]; have e : xv [(⟨b5, c5, ni, av⟩ : Xe)] = encX ⟨b5, c5, ni, av⟩ := (by simp [xv]); rw [e]; exact hown)
          have hgo := Only.of_grown hgrow; have hao : Only (fun _ => False) w6 (w6.alloc (.cells #[.int .i64 5, .slice (some ⟨b5, 0, none⟩) 2 c5] 67)) := (Only.refl _ _).alloc _; have HX9 : Hid (Only (fun _ => False) w1 w9) := hid ((HX6.out.trans hao).then hgo (fun q hq e => by
            have h1 := (HVB.out q e).1; omega))
          have HXO9 : Hid (∀ x ∈ xs ++ [(⟨b5, c5, ni, av⟩ : Xe)], XOk w.heap.size w9 x) := hid (fun x hx => by
            rcases List.mem_append.1 hx with hx | hx
            · exact ((HXO6.out x hx).quiet hao).only hgo (fun e => (HVB.out _ e).2 x hx rfl)
            · rw [List.mem_singleton] at hx; subst hx; exact (HX5N.out.quiet hao).only hgo (fun e => HVB5.out _ e rfl))
          have HVB9 : Hid (∀ q, v9.ownBlock = some q → w1.heap.size ≤ q ∧ ∀ x ∈ xs ++ [(⟨b5, c5, ni, av⟩ : Xe)], x.b ≠ q) := hid (fun q e => by
            have hs6 := HX6.out.size; have hsa := hao.size; rcases hkk q e with e2 | e2
            · refine ⟨(HVB.out q e2).1, fun x hx => ?_⟩; rcases List.mem_append.1 hx with hx | hx
              · exact (HVB.out q e2).2 x hx
              · rw [List.mem_singleton] at hx; subst hx; exact HVB5.out q e2
            · have h2 : w6.heap.size ≤ q := (by first | omega | (rw [size_alloc] at e2; omega)); refine ⟨by omega, fun x hx => ?_⟩; rcases List.mem_append.1 hx with hx | hx
              · have := (HXO6.out x hx).2.1; omega
              · rw [List.mem_singleton] at hx; subst hx; have := HX5N.out.2.1; omega)
          have HXN9 : Hid (Xs (xs ++ [(⟨b5, c5, ni, av⟩ : Xe)]) = expN A carry (ns.take (i + 1))) := hid (by rw [HXN.out]; unfold Xs; rw [List.map_append]; rfl); clear hown hgrow hkk hgo hao HPW HOW6 HXO6 HX6 HVB HXN HX5N HVB5 e0 e1; (go_wp2_with fail); go_roundw
          case rel => exact ⟨i + 1, _, by omega, by go_num, HOW9, HXN9, HXO9, HVB9, HX9⟩
          case measure => (simp [intOf]; omega)
        · have HXN : Hid (Xs xs = expN A carry (ns.take (i + 1))) := hid (by rw [HNX.out, if_pos (.inr rfl), List.append_nil]; exact HXS.out); clear HNX HXS hct; (go_wp2_with fail); refine HCT.out.mono ?_; rintro _ _ ⟨rfl, rfl⟩; (go_wp2_with fail); go_roundw
          case rel => exact ⟨i + 1, xs, by omega, by go_num, HOW2, HXN, HXO2, HVB, HX2⟩
          case measure => (simp [intOf]; omega)
    · have hin : ¬ (i : Int) < (nn : Int) := (by omega); obtain rfl : nn = i := (by omega); have HEND : Hid (ExpR A carry w (.returned u5) wx) := hid ⟨u5, xs, rfl, HOW.out, by rw [HXS.out, HNS.out, List.take_of_length_le (by rw [HNN.out]; omega)], HXO.out, fun q e => ⟨by have := (HVB.out q e).1; have := HO1.out.size; omega, (HVB.out q e).2⟩, HO1.out.trans HX.out⟩; clear HOW HXS HXO HVB HX; (go_wp2_with fail); go_ret
      exact HEND.out
theorem Pv.per {S : Nat → Prop} {w : World} {p pb pj : Nat} {A : List fnd.Ac} {n op : Nat} {C : AcC → Option (List Int)} {L : List jnw.Ps} (h : Pv S w p pb pj A n op C L) : Calls Tryz.prog 22 #[.pointer (some ⟨pj, 0, none⟩)] w fun e w' => e = .returned (.int .i64 (op : Int)) ∧ w = w' := by
  obtain ⟨v, m, nn, hj⟩ := h.pu.jn; exact (jnw.period_any pj op v m w hj.jc).mono (fun e w' h => ⟨h.1, h.2.symm⟩)
theorem Pv.len {S : Nat → Prop} {w : World} {p pb pj : Nat} {A : List fnd.Ac} {n op : Nat} {C : AcC → Option (List Int)} {L : List jnw.Ps} (h : Pv S w p pb pj A n op C L) : Calls Tryz.prog 60 #[.pointer (some ⟨pj, 0, none⟩)] w fun e w' => e = .returned (.int .i64 (L.length : Int)) ∧ w = w' := by
  obtain ⟨v, m, nn, hj⟩ := h.pu.jn; obtain ⟨a, cap, rfl, -⟩ := hj.own.reads; exact (jnw.len_any pj op a L.length cap m w hj.jc).mono (fun e w' h => ⟨h.1, h.2.symm⟩)
theorem exL_in {n av : Int} (hn : 1 ≤ n ∧ n ≤ 32) (ha : 1 ≤ av ∧ av ≤ 9007199254740992) (j : Nat) (hj : j < 2) : accn.InA (jnw.lgA ((exL n av).getD j default)) ∧ -9007199254740992 ≤ ((exL n av).getD j default).a ∧ ((exL n av).getD j default).a ≤ 9007199254740992 := by
  have h : j = 0 ∨ j = 1 := (by omega); rcases h with rfl | rfl
  · refine ⟨⟨?_, ?_, ?_⟩, ?_, ?_⟩
    · show accm.I64 2; unfold accm.I64; omega
    · show accm.I64 n; unfold accm.I64; omega
    · show accm.I64 0; unfold accm.I64; omega
    · show -9007199254740992 ≤ av; omega
    · show av ≤ 9007199254740992; omega
  · refine ⟨⟨?_, ?_, ?_⟩, ?_, ?_⟩
    · show accm.I64 5; unfold accm.I64; omega
    · show accm.I64 n; unfold accm.I64; omega
    · show accm.I64 0; unfold accm.I64; omega
    · show -9007199254740992 ≤ -av; omega
    · show -av ≤ 9007199254740992; omega
set_option maxRecDepth 100000 in
set_option maxHeartbeats 8000000 in
theorem takes_any {S : Nat → Prop} {p pb pj : Nat} {A : List fnd.Ac} {n op : Nat} {C : AcC → Option (List Int)} {L : List jnw.Ps} (W0 : Nat) (a : Option Addr) (len cap : Nat) (xs : List Xe) (w : World) (h : Pv S w p pb pj A n op C L) (hn : n ≤ 120) (hr : ReadsX w a len xs) (hx : ∀ x ∈ xs, XOk W0 w x) (hl : len ≤ 40) :
    Calls Tryz.prog 30 #[.pointer (some ⟨p, 0, none⟩), .slice a len cap] w fun e w' => e = .returned (.int .i64 (if 31 ≤ op then 10 else 0)) ∧ Only (fun _ => False) w w' := by
  have HPV := hid h; have HR := hid hr; have HXO := hid hx; have c1 := h.pu.c1; have HPE := hid h.per; have hop := h.pu.opl; by_cases h31 : 31 ≤ op
  · rw [if_pos h31]; have hg : (32 : Int) ≤ (op : Int) + 1 := (by omega); have hw : wrap64 ((op : Int) + 1) = (op : Int) + 1 := (by unfold wrap64; omega); clear h hr hx; go_enter Tryz.func30, Tryz.ntmps30
    (go_wp2_with fail); refine HPE.out.mono ?_; rintro _ _ ⟨rfl, rfl⟩; (go_wp2_with fail); go_ret
    exact ⟨rfl, Only.refl _ _⟩
  · rw [if_neg h31]; have hg : ¬ (32 : Int) ≤ (op : Int) + 1 := (by omega); have hg2 : decide ((32 : Int) ≤ (op : Int) + 1) = false := decide_eq_false hg; have hw : wrap64 ((op : Int) + 1) = (op : Int) + 1 := (by unfold wrap64; omega); have HLN := hid h.len; have hll := h.ln; obtain ⟨ll, hlle⟩ : ∃ x, L.length = x := ⟨_, rfl⟩; rw [hlle] at HLN hll; have hw2 : wrap64 ((ll : Int) + (len : Int)) = (ll : Int) + (len : Int) := (by unfold wrap64; omega); have hg3 : ¬ (16384 : Int) < (ll : Int) + (len : Int) := (by omega); clear h hr hx hlle; go_enter Tryz.func30, Tryz.ntmps30
    (go_wp2_with fail); refine HPE.out.mono ?_; rintro _ _ ⟨rfl, rfl⟩; (go_wp2_with fail); refine HLN.out.mono ?_; rintro _ _ ⟨rfl, rfl⟩; clear HPE HLN; go_wp2_with fail
    go_loopw [30] (fun iv wx => ∃ i : Nat, i ≤ len ∧ iv = .int .i64 (i : Int) ∧ Hid (Only (fun _ => False) w wx)) (fun iv _ => len - (intOf iv).toNat)
    case atStart => exact ⟨0, by omega, rfl, hid (Only.refl _ _)⟩
    case round =>
      obtain ⟨i, hi, rfl, HX⟩ := hrel; rename World => wx
      by_cases h8 : i < len
      · have hin : (i : Int) < (len : Int) := (by omega); have hi0 : (0 : Int) ≤ (i : Int) := (by omega); obtain ⟨g, rfl, hcell⟩ := HR.out.2.resolve_left (by omega); obtain ⟨d0, d1⟩ := hcell i h8; have e0 := HX.out.cell' d0 (fun f => f); have e1 := HX.out.cell' d1 (fun f => f); have hmem : xs.getD i default ∈ xs := by
          rw [List.getD_eq_getElem?_getD, List.getElem?_eq_getElem (by rw [HR.out.1]; exact h8)]; exact List.getElem_mem _
        have HXI := hid (HXO.out _ hmem); obtain ⟨xx, hxx⟩ : ∃ x, xs.getD i default = x := ⟨_, rfl⟩; rw [hxx] at e1 HXI; obtain ⟨xb, xc, xn, xa⟩ := xx; dsimp only at e1; obtain ⟨w3, hw3⟩ : ∃ y, y = wx.alloc (.cells #[.int .i64 5, .slice (some ⟨xb, 0, none⟩) 2 xc] 67) := ⟨_, rfl⟩; obtain ⟨g3, hg3'⟩ : ∃ y, y = wx.heap.size := ⟨_, rfl⟩; have ho3 : Only (fun _ => False) wx w3 := (by rw [hw3]; exact (Only.refl _ _).alloc _); have f1 : w3.cell? ⟨g3, 1, none⟩ = some (.slice (some ⟨xb, 0, none⟩) 2 xc) := (by rw [hw3]; exact tre.alloc_cell hg3' rfl); have HX3 := hid (HX.out.trans ho3); clear d0 d1 hcell hmem hxx ho3 HX; (go_upto_region 6 with fail); simp only [← hw3, ← hg3']; clear hw3 hg3' e0 e1; go_wp2_with fail
        go_loopw [37] (fun jv wy => ∃ j : Nat, j ≤ 2 ∧ jv = .int .i64 (j : Int) ∧ Hid (Only (fun _ => False) w wy)) (fun jv _ => 2 - (intOf jv).toNat)
        case atStart => exact ⟨0, by omega, rfl, HX3⟩
        case round =>
          clear HX3 f1; obtain ⟨j, hj, rfl, HXJ⟩ := hrel; rename World => wy
          by_cases h9 : j < 2
          · have hjn : (j : Int) < 2 := (by omega); have hj0 : (0 : Int) ≤ (j : Int) := (by omega); obtain ⟨b2, off, eb, hlc⟩ := HXI.out.2.2.1.2.2.2.resolve_left (by show ¬ 2 = 0; omega); injection eb with eb; injection eb with eb1 eb2; have hlj := hlc j (show j < 2 from h9)
            rw [← eb1, ← eb2] at hlj; have hin2 := exL_in HXI.out.2.2.2.1 HXI.out.2.2.2.2 j h9; obtain ⟨lgg, hlg⟩ : ∃ x, (exL xn xa).getD j default = x := ⟨_, rfl⟩; dsimp only at hlj hin2; rw [hlg] at hlj hin2; obtain ⟨lk, ln, lg, la⟩ := lgg; obtain ⟨q0, q1, q2, q3⟩ := hlj; dsimp only at q0 q1 q2 q3 hin2; rw [Nat.zero_add] at q0 q1 q2 q3; replace q0 := HXJ.out.cell' q0 (fun f => f); replace q1 := HXJ.out.cell' q1 (fun f => f); replace q2 := HXJ.out.cell' q2 (fun f => f); replace q3 := HXJ.out.cell' q3 (fun f => f); have HBL0 := hid (fun w' (ho : Only (fun _ => False) w w') => (HPV.out.quiet ho).bal (by omega) lk ln lg hin2.1); have hbb := (HPV.out.bd ⟨lk, ln, lg⟩).2.1; obtain ⟨bs, hbs⟩ : ∃ x, (jnw.ror C ⟨lk, ln, lg⟩).sum = x := ⟨_, rfl⟩; rw [hbs] at HBL0 hbb; have hla := hin2.2; have hws : wrap64 (bs + la) = bs + la := (by unfold wrap64; omega); have hb1 : ¬ 1152921504606846976 < bs + la := (by omega); have hb2 : ¬ bs + la < -1152921504606846976 := (by omega); obtain ⟨w4, hw4⟩ : ∃ y, y = wy.alloc (.cells #[.int .i64 lk, .int .i64 ln, .int .i64 lg, .int .i64 la] 96) := ⟨_, rfl⟩; obtain ⟨g4, hg4⟩ : ∃ y, y = wy.heap.size := ⟨_, rfl⟩; have ho4 : Only (fun _ => False) wy w4 := (by rw [hw4]; exact (Only.refl _ _).alloc _); have HX4 := hid (HXJ.out.trans ho4); have HSL : Hid (∀ w', Only (fun _ => False) w4 w' → w'.cell? ⟨p, 1, none⟩ = some (.pointer (some ⟨pj, 0, none⟩)) ∧ w'.cell? ⟨g4, 0, none⟩ = some (.int .i64 lk) ∧ w'.cell? ⟨g4, 1, none⟩ = some (.int .i64 ln) ∧ w'.cell? ⟨g4, 2, none⟩ = some (.int .i64 lg) ∧ w'.cell? ⟨g4, 3, none⟩ = some (.int .i64 la)) := hid (fun w' ho => ⟨(HX4.out.trans ho).cell' HPV.out.pu.c1 (fun f => f), ho.cell' (by rw [hw4]; exact tre.alloc_cell hg4 rfl) (fun f => f), ho.cell' (by rw [hw4]; exact tre.alloc_cell hg4 rfl) (fun f => f), ho.cell' (by rw [hw4]; exact tre.alloc_cell hg4 rfl) (fun f => f), ho.cell' (by rw [hw4]; exact tre.alloc_cell hg4 rfl) (fun f => f)⟩); have HBL : Hid (∀ w', Only (fun _ => False) w4 w' → Calls Tryz.prog 24 #[.pointer (some ⟨pj, 0, none⟩), .agg #[.int .i64 lk, .int .i64 ln, .int .i64 lg]] w' fun e w2 => e = .returned (.int .i64 bs) ∧ Only (fun _ => False) w' w2) := hid (fun w' ho => HBL0.out w' (HX4.out.trans ho)); clear eb1 eb2 hlc hin2 hlg hbs hbb hla HBL0 ho4 HXJ; (go_upto_region 9 with fail); simp only [← hw4, ← hg4]; clear hw4 hg4 q0 q1 q2 q3; refine wp_region_noPanic ?_; refine late.region (fun w' => w'.cell? ⟨p, 1, none⟩ = some (.pointer (some ⟨pj, 0, none⟩)) ∧ w'.cell? ⟨g4, 0, none⟩ = some (.int .i64 lk) ∧ w'.cell? ⟨g4, 1, none⟩ = some (.int .i64 ln) ∧ w'.cell? ⟨g4, 2, none⟩ = some (.int .i64 lg) ∧ w'.cell? ⟨g4, 3, none⟩ = some (.int .i64 la)) (fun j => [].contains j) (by kernel_rfl) (HSL.out _ (Only.refl _ _).drew) (fun hHeld => ?_); obtain ⟨z0, hz0'⟩ : ∃ x, x = w4.drew := ⟨_, rfl⟩; rw [← hz0'] at hHeld ⊢; have hot : Hid (Only (fun _ => False) w4 z0) := hid (by rw [hz0']; exact (Only.refl _ _).drew); clear hz0'; refine sho.lt 0 [1, 2, 3, 6, 9, 10] ?_; refine sho.lt 1 [2, 3, 6, 9, 10] ?_; refine sho.lt 2 [3, 6, 9, 10] ?_; refine sho.lt 3 [6, 9, 10] ?_; refine sho.lt 4 [5, 6, 9, 10] ?_; refine sho.lt 5 [6, 9, 10] ?_; refine sho.lt 7 [8, 9, 10] ?_; refine sho.lt 8 [9, 10] ?_; refine late.ready (rs := [6]) (by kernel_rfl) (by simp) ?_; refine late.Each.cons rfl (fun K hK => ?_) late.Each.nil; (try simp only [getElem_toArray, getElem_cons_zero, getElem_cons_succ]); (go_simp); (go_at_call 24); (with_reducible refine (HBL.out _ hot.out).mono ?_); rintro _ z1 ⟨rfl, ho⟩; replace hot := hid (hot.out.trans ho); clear ho HBL; (try dsimp only); refine hK.out _ _ (fun _ => HSL.out _ hot.out) (fun hHeld1 => ?_); replace hHeld1 := hHeld1 rfl; clear hK K; (try simp only [getElem_toArray, getElem_cons_zero, getElem_cons_succ, Act.put, setIfInBounds_toArray, set_cons_zero, set_cons_succ]); refine sho.lt 9 [10] ?_; refine sho.lt 10 [] ?_; refine late.done (by kernel_rfl) ?_ _; refine NoPanic.normal ?_; clear hHeld; have HXN := hid (HX4.out.trans hot.out); clear hot HSL HX4; (go_wp2_with fail); go_roundw
            case rel => exact ⟨j + 1, by omega, by go_num, HXN⟩
            case measure => (simp [intOf]; omega)
          · have hjn : ¬ (j : Int) < 2 := (by omega); (go_wp2_with fail); go_roundw
            case rel => exact ⟨i + 1, by omega, by go_num, HXJ⟩
            case measure => (simp [intOf]; omega)
      · have hin : ¬ (i : Int) < (len : Int) := (by omega); (go_wp2_with fail); go_ret
        exact ⟨rfl, HX.out⟩
end Go.Proofs.YtkbaafgaaiekpaaGreat.puw
