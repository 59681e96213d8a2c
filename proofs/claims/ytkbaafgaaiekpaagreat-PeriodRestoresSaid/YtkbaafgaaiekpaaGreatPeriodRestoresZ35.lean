/- Several texts together: PuV, PuW. -/
import Derived.Test.YtkbaafgaaiekpaaGreatPeriodRestoresZ34
namespace Go.Proofs.YtkbaafgaaiekpaaGreat.puw
open Go.RowKit mem entm
set_option linter.unusedVariables false
def useN (C : AcC → Option (List Int)) (op : Nat) (m : Int) : Int := ((List.range 8).map fun g => (jnw.ror C ⟨4, m, ((g + 1 : Nat) : Int)⟩).getD op 0).sum
structure Agree (A : List fnd.Ac) (op : Nat) (C : AcC → Option (List Int)) : Prop where
  len : A.length = 33
  left : ∀ m : Nat, 1 ≤ m ∧ m ≤ 32 → fnd.left (A.getD m fnd.zA) = -(jnw.ror C ⟨2, (m : Int), 0⟩).sum
  held : ∀ m : Nat, 1 ≤ m ∧ m ≤ 32 → (A.getD m fnd.zA).h = -(jnw.ror C ⟨3, (m : Int), 0⟩).sum
  used : ∀ m : Nat, 1 ≤ m ∧ m ≤ 32 → (A.getD m fnd.zA).u = -useN C op (m : Int)
  late : ∀ (a : AcC) (j : Nat), op < j → (jnw.ror C a).getD j 0 = 0
theorem nought_get (j : Nat) : (accn.noughts).getD j 0 = 0 := by
  rw [List.getD_eq_getElem?_getD]; unfold accn.noughts; rw [List.getElem?_replicate]; split <;> rfl
theorem Agree.start : Agree fnd.A0 0 (fun _ => none) := by
  refine ⟨Eq4.z.len, fun m _ => ?_, fun m _ => ?_, fun m _ => ?_, fun a j _ => nought_get j⟩
  · rw [A0_get4, none_sum]; rfl
  · rw [A0_get4, none_sum]; rfl
  · rw [A0_get4]; show (0 : Int) = -useN (fun _ => none) 0 (m : Int); unfold useN; have e : (fun g : Nat => (jnw.ror (fun _ => none) ⟨4, (m : Int), ((g + 1 : Nat) : Int)⟩).getD 0 0) = fun _ => (0 : Int) := funext fun g => nought_get 0; rw [e]
    rfl
def useL (m : Int) (ls : List Lg) : Int := ((List.range 8).map fun g => jnw.atA ⟨4, m, ((g + 1 : Nat) : Int)⟩ ls).sum
theorem useN_add {C : AcC → Option (List Int)} {B : Int} (hB : jnw.Bnd C B) (hb : B ≤ 1152921504606846976) {op : Nat} (hop : op < 32) {k : Int} {ls : List Lg} (hc : chk k ls = 0) (m : Int) : useN (jnw.addC C op ls) op m = useN C op m + useL m ls := by
  unfold useN useL; rw [← sum_two]; congr 1; apply List.map_congr_left; intro g _; rw [hB.get hb hop hc, if_pos rfl]
theorem group_sum (gr y : Int) (h : 1 ≤ gr ∧ gr ≤ 8) : ((List.range 8).map fun g : Nat => if gr = ((g + 1 : Nat) : Int) then y else 0).sum = y := by
  have hg : gr = 1 ∨ gr = 2 ∨ gr = 3 ∨ gr = 4 ∨ gr = 5 ∨ gr = 6 ∨ gr = 7 ∨ gr = 8 := (by omega); have e : ∀ f : Nat → Int, ((List.range 8).map f).sum = f 0 + (f 1 + (f 2 + (f 3 + (f 4 + (f 5 + (f 6 + (f 7 + 0))))))) := fun f => rfl; rw [e]; rcases hg with rfl | rfl | rfl | rfl | rfl | rfl | rfl | rfl <;> simp
theorem Agree.post {A A' : List fnd.Ac} {op : Nat} {C : AcC → Option (List Int)} (h : Agree A op C) {B : Int} (hB : jnw.Bnd C B) (hb : B ≤ 1152921504606846976) (hop : op < 32) {k : Int} {ls : List Lg} (hc : chk k ls = 0) (hl : A'.length = 33) (h2 : ∀ m : Nat, 1 ≤ m ∧ m ≤ 32 → fnd.left (A'.getD m fnd.zA) = fnd.left (A.getD m fnd.zA) - jnw.atA ⟨2, (m : Int), 0⟩ ls) (h3 : ∀ m : Nat, 1 ≤ m ∧ m ≤ 32 → (A'.getD m fnd.zA).h = (A.getD m fnd.zA).h - jnw.atA ⟨3, (m : Int), 0⟩ ls) (h4 : ∀ m : Nat, 1 ≤ m ∧ m ≤ 32 → (A'.getD m fnd.zA).u = (A.getD m fnd.zA).u - useL (m : Int) ls) : Agree A' op (jnw.addC C op ls) := by
  refine ⟨hl, fun m hm => ?_, fun m hm => ?_, fun m hm => ?_, fun a j hj => ?_⟩
  · rw [h2 m hm, h.left m hm, hB.sum hb hop hc]; omega
  · rw [h3 m hm, h.held m hm, hB.sum hb hop hc]; omega
  · rw [h4 m hm, h.used m hm, useN_add hB hb hop hc]; omega
  · rw [hB.get hb hop hc, if_neg (by omega), h.late a j hj]; rfl
theorem Agree.top {A : List fnd.Ac} {op : Nat} {C : AcC → Option (List Int)} (h : Agree A op C) {B : Int} (hB : jnw.Bnd C B) (hb : B ≤ 1152921504606846976) (hop : op < 32) {n : Nat} (hn : 1 ≤ n ∧ n ≤ 32) {x gr : Int} {ls : List Lg} (hy : PoYes C 1 x gr [(n : Int)] ls) (he : fnd.topE A (n : Int) x = 0) : Agree (fnd.topA A (n : Int) x) op (jnw.addC C op ls) := by
  have hl := h.len; have e : fnd.topA A (n : Int) x = A.set n { A.getD n fnd.zA with t := (A.getD n fnd.zA).t + x } := by
    unfold fnd.topA; rw [if_pos he, acG4 (by omega), Int.toNat_natCast]
  rw [e]; have g := fun m => getD_set4 A n m { A.getD n fnd.zA with t := (A.getD n fnd.zA).t + x } (by omega); have y2 : ∀ m : Nat, jnw.atA ⟨2, (m : Int), 0⟩ ls = if n = m then -x else 0 := fun m => by
    rw [yes_at1 hy]; by_cases em : n = m
    · subst em; simp
    · have em2 : ¬ (m : Int) = (n : Int) := fun f => em (by omega); simp [em, em2]
  have y3 : ∀ m : Nat, jnw.atA ⟨3, (m : Int), 0⟩ ls = 0 := fun m => (by rw [yes_at1 hy]; simp); have y4 : ∀ m : Nat, useL (m : Int) ls = 0 := fun m => by
    unfold useL; have e2 : (fun g : Nat => jnw.atA ⟨4, (m : Int), ((g + 1 : Nat) : Int)⟩ ls) = fun _ => (0 : Int) := funext fun g => (by rw [yes_at1 hy]; simp); rw [e2]; rfl
  refine h.post hB hb hop hy.2.2.2.1 (by rw [List.length_set]; exact hl) (fun m hm => ?_) (fun m hm => ?_) (fun m hm => ?_)
  · rw [g m, y2]; by_cases em : n = m
    · subst em; rw [if_pos rfl, if_pos rfl]; unfold fnd.left; dsimp only; omega
    · rw [if_neg em, if_neg em]; omega
  · rw [g m, y3]; by_cases em : n = m
    · subst em; rw [if_pos rfl]; dsimp only; omega
    · rw [if_neg em]; omega
  · rw [g m, y4]; by_cases em : n = m
    · subst em; rw [if_pos rfl]; dsimp only; omega
    · rw [if_neg em]; omega
theorem Agree.shift {A : List fnd.Ac} {op : Nat} {C : AcC → Option (List Int)} (h : Agree A op C) {B : Int} (hB : jnw.Bnd C B) (hb : B ≤ 1152921504606846976) (hop : op < 32) {k x gr dh du : Int} {path : List Int} (hp : path.Nodup) (hr : ∀ n ∈ path, 1 ≤ n ∧ n ≤ 32) {ls : List Lg} (hy : PoYes C k x gr path ls) (hk : k = 2 ∧ dh = x ∧ du = 0 ∨ k = 3 ∧ dh = -x ∧ du = 0 ∨ k = 4 ∧ dh = -x ∧ du = x ∧ (1 ≤ gr ∧ gr ≤ 8) ∨ k = 6 ∧ dh = 0 ∧ du = -x ∧ (1 ≤ gr ∧ gr ≤ 8)) : Agree (fnd.shT A path dh du) op (jnw.addC C op ls) := by
  have hk1 : ¬ k = 1 := (by omega); have at_ := fun a => yes_at hy hk1 hp a; have g := fun m => sh_get dh du m path A h.len hp hr; refine h.post hB hb hop hy.2.2.2.1 (by rw [fnd.shT_len]; exact h.len) (fun m hm => ?_) (fun m hm => ?_) (fun m hm => ?_)
  · rw [g m, at_]; by_cases em : (m : Int) ∈ path
    · rw [if_pos em, if_pos em]; unfold fnd.left fnd.shB; dsimp only; rcases hk with ⟨rfl, rfl, rfl⟩ | ⟨rfl, rfl, rfl⟩ | ⟨rfl, rfl, rfl, _⟩ | ⟨rfl, rfl, rfl, _⟩
      · simp [debL, creL, jnw.lgA]; omega
      · simp [debL, creL, jnw.lgA]; omega
      · simp [debL, creL, jnw.lgA]; omega
      · simp [debL, creL, jnw.lgA]; omega
    · rw [if_neg em, if_neg em]; omega
  · rw [g m, at_]; by_cases em : (m : Int) ∈ path
    · rw [if_pos em, if_pos em]; unfold fnd.shB; dsimp only; rcases hk with ⟨rfl, rfl, rfl⟩ | ⟨rfl, rfl, rfl⟩ | ⟨rfl, rfl, rfl, _⟩ | ⟨rfl, rfl, rfl, _⟩
      · simp [debL, creL, jnw.lgA]
      · simp [debL, creL, jnw.lgA]; omega
      · simp [debL, creL, jnw.lgA]; omega
      · simp [debL, creL, jnw.lgA]
    · rw [if_neg em, if_neg em]; omega
  · have hu : useL (m : Int) ls = if (m : Int) ∈ path then -du else 0 := by
      unfold useL; have e2 : (fun g : Nat => jnw.atA ⟨4, (m : Int), ((g + 1 : Nat) : Int)⟩ ls) = fun g : Nat => if (m : Int) ∈ path then (if gr = ((g + 1 : Nat) : Int) then -du else 0) else 0 := funext fun g => by
        rw [at_]; by_cases em : (m : Int) ∈ path
        · rw [if_pos em, if_pos em]; rcases hk with ⟨rfl, rfl, rfl⟩ | ⟨rfl, rfl, rfl⟩ | ⟨rfl, rfl, rfl, _⟩ | ⟨rfl, rfl, rfl, _⟩
          · simp [debL, creL, jnw.lgA]
          · simp [debL, creL, jnw.lgA]
          · simp [debL, creL, jnw.lgA]
          · simp [debL, creL, jnw.lgA]
        · rw [if_neg em, if_neg em]
      rw [e2]; by_cases em : (m : Int) ∈ path
      · simp only [if_pos em]; rcases hk with ⟨rfl, rfl, rfl⟩ | ⟨rfl, rfl, rfl⟩ | ⟨rfl, rfl, rfl, hg⟩ | ⟨rfl, rfl, rfl, hg⟩
        · simp only [Int.neg_zero, ite_self]; rfl
        · simp only [Int.neg_zero, ite_self]; rfl
        · exact group_sum gr _ hg
        · exact group_sum gr _ hg
      · simp only [if_neg em]; rfl
    rw [g m, hu]; by_cases em : (m : Int) ∈ path
    · rw [if_pos em, if_pos em]; unfold fnd.shB; dsimp only; omega
    · rw [if_neg em, if_neg em]; omega
theorem atA_append (a : AcC) : ∀ l r : List Lg, jnw.atA a (l ++ r) = jnw.atA a l + jnw.atA a r
  | [], r => by show _ = (0 : Int) + _; rw [List.nil_append]; omega
  | x :: l, r => by rw [List.cons_append, jnw.atA_cons, jnw.atA_cons, atA_append a l r]; omega
theorem atA_ex (a : AcC) (n av : Int) : jnw.atA a (exL n av) = (if (⟨2, n, 0⟩ : AcC) = a then av else 0) + (if (⟨5, n, 0⟩ : AcC) = a then -av else 0) := by
  unfold exL; rw [jnw.atA_cons, jnw.atA_cons]; have z : jnw.atA a [] = 0 := rfl; rw [z]; have e1 : (jnw.lgA ⟨2, n, 0, av⟩ = a) = ((⟨2, n, 0⟩ : AcC) = a) := rfl; have e2 : (jnw.lgA ⟨5, n, 0, -av⟩ = a) = ((⟨5, n, 0⟩ : AcC) = a) := rfl; simp only [e1, e2]; omega
def flatP (ps : List (Int × Int)) : List Lg := ps.flatMap fun p => exL p.1 p.2
theorem flatX_P (xs : List Xe) : flatX xs = flatP (Xs xs) := by
  unfold flatX flatP Xs; rw [List.flatMap_map]
theorem flat_not (a : AcC) (h : ¬ (a.k = 2 ∨ a.k = 5)) : ∀ ps : List (Int × Int), jnw.atA a (flatP ps) = 0
  | [] => rfl
  | p :: r => by
    have e : flatP (p :: r) = exL p.1 p.2 ++ flatP r := rfl; rw [e, atA_append, atA_ex, flat_not a h r, if_neg (fun f => h (.inl (by rw [← f]))), if_neg (fun f => h (.inr (by rw [← f])))]
    rfl
theorem flat_two (A : List fnd.Ac) (carry : List Int) (m : Nat) : ∀ ns : List Int, ns.Nodup → jnw.atA ⟨2, (m : Int), 0⟩ (flatP (expN A carry ns)) = if (m : Int) ∈ ns then (if carry.contains (m : Int) = true then 0 else fnd.left (fnd.acG A (m : Int))) else 0
  | [], _ => by rw [if_neg (by simp)]; rfl
  | n :: r, hn => by
    rw [List.nodup_cons] at hn; have ih := flat_two A carry m r hn.2; have e : expN A carry (n :: r) = (if fnd.left (fnd.acG A n) = 0 ∨ carry.contains n = true then [] else [(n, fnd.left (fnd.acG A n))]) ++ expN A carry r := by simp [expN]
    have e2 : ∀ a b : List (Int × Int), flatP (a ++ b) = flatP a ++ flatP b := fun a b => (by unfold flatP; rw [List.flatMap_append]); rw [e, e2, atA_append, ih]; by_cases em : n = (m : Int)
    · subst em; rw [if_neg hn.1, if_pos (show (m : Int) ∈ (m : Int) :: r by simp)]; by_cases ec : carry.contains (m : Int) = true
      · rw [if_pos (.inr ec), if_pos ec]; rfl
      · rw [if_neg ec]; by_cases e0 : fnd.left (fnd.acG A (m : Int)) = 0
        · rw [if_pos (.inl e0), e0]; rfl
        · rw [if_neg (fun f => f.elim e0 ec)]; have e3 : flatP [((m : Int), fnd.left (fnd.acG A (m : Int)))] = exL (m : Int) (fnd.left (fnd.acG A (m : Int))) := (by simp [flatP]); rw [e3, atA_ex, if_pos rfl, if_neg (fun f => by injection f with f1 f2 f3; omega)]; omega
    · have h0 : jnw.atA ⟨2, (m : Int), 0⟩ (flatP (if fnd.left (fnd.acG A n) = 0 ∨ carry.contains n = true then [] else [(n, fnd.left (fnd.acG A n))])) = 0 := by
        split
        · rfl
        · have e3 : flatP [(n, fnd.left (fnd.acG A n))] = exL n (fnd.left (fnd.acG A n)) := (by simp [flatP]); rw [e3, atA_ex, if_neg (fun f => by injection f with f1 f2 f3; exact em f2), if_neg (fun f => by injection f with f1 f2 f3; omega)]
          rfl
      rw [h0]; by_cases e4 : (m : Int) ∈ r
      · rw [if_pos e4, if_pos (show (m : Int) ∈ n :: r by simp [e4])]; omega
      · rw [if_neg e4, if_neg (fun f => by
          rcases List.mem_cons.1 f with f | f
          · exact em f.symm
          · exact e4 f)]
        rfl
theorem Agree.roll {A : List fnd.Ac} {op : Nat} {C : AcC → Option (List Int)} (h : Agree A op C) (hz : A.getD 0 fnd.zA = fnd.zA) {B : Int} (hB : jnw.Bnd C B) (hb : B ≤ 1152921504606846976) (hop : op < 32) {carry : List Int} {xs : List Xe} (hx : Xs xs = expN A carry (fnd.nodU A 33)) (ha : ∀ x ∈ xs, 1 ≤ x.av ∧ x.av ≤ 9007199254740992) : Agree (rollF carry (A, 0) (fnd.nodU A 33)).1 (op + 1) (jnw.addC C op (flatX xs)) := by
  have hnd : ((flatX xs).map jnw.lgA).Nodup := flatX_nodup _ (xs_nodup hx); have ham := flatX_amt ha; have hno : ∀ n ∈ fnd.nodU A 33, fnd.NodeOk n := fun n hn => by
    have h0 := fnd.nodU_in A 33 n hn; obtain ⟨j, rfl⟩ : ∃ j : Nat, n = (j : Int) := ⟨n.toNat, by omega⟩; have h1 := (nodU_mem A j).1 hn; have h2 : j ≠ 0 := fun e => (by subst e; exact h1.2 hz); unfold fnd.NodeOk; omega
  have key := fun j => rollF_get carry j (fnd.nodU A 33) A 0 h.len (nodU_nodup A) hno; have hsum := fun a => bnd_sum hB hb hop hnd ham a; have hget := fun a j => bnd_get hB hb hop hnd ham a j; have hout : ∀ m : Nat, m ≤ 32 → ¬ (m : Int) ∈ fnd.nodU A 33 → A.getD m fnd.zA = fnd.zA := fun m hm e => Decidable.byContradiction fun f => e ((nodU_mem A m).2 ⟨by omega, f⟩); refine ⟨(key 0).1, fun m hm => ?_, fun m hm => ?_, fun m hm => ?_, fun a j hj => ?_⟩
  · have h1 := h.left m hm; rw [(key m).2, hsum, flatX_P, hx, flat_two A carry m _ (nodU_nodup A), acG4 (by omega)]; by_cases em : (m : Int) ∈ fnd.nodU A 33
    · rw [if_pos em, if_pos em]; unfold fnd.rolled fnd.goneN; by_cases ec : carry.contains (m : Int) = true
      · rw [if_pos ec]; unfold fnd.left at *; dsimp only; omega
      · rw [if_neg ec]; unfold fnd.left at *; dsimp only; omega
    · rw [if_neg em, if_neg em]; omega
  · have h1 := h.held m hm; rw [(key m).2, hsum, flatX_P, flat_not ⟨3, (m : Int), 0⟩ (by dsimp only; omega)]; by_cases em : (m : Int) ∈ fnd.nodU A 33
    · rw [if_pos em]; show (A.getD m fnd.zA).h = _; omega
    · rw [if_neg em]; omega
  · have hu : useN (jnw.addC C op (flatX xs)) (op + 1) (m : Int) = 0 := by
      unfold useN; have e : (fun g : Nat => (jnw.ror (jnw.addC C op (flatX xs)) ⟨4, (m : Int), ((g + 1 : Nat) : Int)⟩).getD (op + 1) 0) = fun _ => (0 : Int) := funext fun g => by
        rw [hget, if_neg (by omega), h.late _ _ (by omega)]; rfl
      rw [e]; rfl
    rw [hu, (key m).2]; by_cases em : (m : Int) ∈ fnd.nodU A 33
    · rw [if_pos em]; rfl
    · rw [if_neg em, hout m hm.2 em]; rfl
  · rw [hget, if_neg (by omega), h.late a j (by omega)]; rfl
section
variable {S : Nat → Prop} {w : World} {p pb pj : Nat} {A : List fnd.Ac} {n op : Nat} {C : AcC → Option (List Int)} {L : List jnw.Ps}
theorem shA_agree (h : Pv S w p pb pj A n op C L) (hg : Agree A op C) (hn : n ≤ 126) {k x gr dh du : Int} {l : List Int} (hk : k = 2 ∧ dh = x ∧ du = 0 ∨ k = 3 ∧ dh = -x ∧ du = 0 ∨ k = 4 ∧ dh = -x ∧ du = x ∧ (1 ≤ gr ∧ gr ≤ 8) ∨ k = 6 ∧ dh = 0 ∧ du = -x ∧ (1 ≤ gr ∧ gr ≤ 8)) (hp : fnd.PathOk l) {ls : List Lg} (hy : PoYes C k x gr l ls) : Agree (fnd.shT A l dh du) op (jnw.addC C op ls) := by
  obtain ⟨h1, h2⟩ := path_nodes hp; exact hg.shift h.bd (by omega) h.pu.opl hp.nodup (fun n hn => h2 n hn) hy hk
theorem sh_ok {l : List Int} {x dh du : Int} (he : fnd.shE A l x dh du = 0) : fnd.PathOk l := by
  unfold fnd.shE at he; by_cases e : fnd.PathOk l ∧ fnd.AmtOk x
  · exact e.1
  · rw [if_neg e] at he; exact absurd he (by decide)
theorem hold_ok {l ls : List Int} {x : Int} (he : fnd.holdE A l ls x = 0) : fnd.PathOk l := by
  unfold fnd.holdE at he; by_cases e : (fnd.PathOk l ∧ ls.length = l.length ∧ fnd.LOk ls ls.length) ∧ fnd.AmtOk x
  · exact e.1.1
  · rw [if_neg e] at he; exact absurd he (by decide)
end
end Go.Proofs.YtkbaafgaaiekpaaGreat.puw
