/- Several texts together: PdV, PdX. -/
import Derived.Test.YtkbaafgaaiekpaaGreatPeriodRestoresZ41
import Derived.Test.YtkbaafgaaiekpaaGreatPeriodRestoresZ42
import Derived.Test.YtkbaafgaaiekpaaGreatPeriodRestoresZ45
namespace Go.Proofs.YtkbaafgaaiekpaaGreat.pdw
open Go.RowKit mem entm puw tre
set_option linter.unusedVariables false
structure En where
  kd : Int
  b : Nat
  cp : Nat
  ls : List Lg
deriving Inhabited
def encE (x : En) : List Value := [.int .i64 x.kd, .slice (some ⟨x.b, 0, none⟩) x.ls.length x.cp]
def ev (l : List En) : List Value := l.flatMap encE
theorem ev_cons (x : En) (r : List En) : ev (x :: r) = encE x ++ ev r := by simp [ev]
theorem ev_append (a b : List En) : ev (a ++ b) = ev a ++ ev b := by simp [ev]
theorem ev_one (l : List En) : ∀ u ∈ ev l, u.oneCell' = true := by
  intro u hu; simp only [ev, List.mem_flatMap] at hu; obtain ⟨x, _, hx⟩ := hu; simp [encE] at hx; rcases hx with rfl | rfl <;> rfl
theorem ev_drop : ∀ (l : List En) (k : Nat), (ev l).drop (k * 2) = ev (l.drop k) := by
  intro l
  induction l with
  | nil => intro k; simp [ev]
  | cons x r ih =>
    intro k; cases k with
    | zero => simp [ev]
    | succ k =>
      have e : (k + 1) * 2 = k * 2 + 2 := (by omega); rw [e, List.drop_succ_cons, ev_cons, ← ih k]
      rfl
theorem ev_get (l : List En) (i c : Nat) (hi : i < l.length) (hc : c < 2) : (ev l)[i * 2 + c]? = (encE (l.getD i default))[c]? := by
  have h : l.drop i = l.getD i default :: l.drop (i + 1) := (by rw [List.drop_eq_getElem_cons hi]; simp [List.getD, hi]); rw [← List.getElem?_drop, ev_drop, h, ev_cons, List.getElem?_append_left (by show c < 2; exact hc)]
def OwnE (w : World) (v : Value) (l : List En) : Prop := w.ownsRow 0 67 2 v l.length (ev l)
theorem OwnE.nil (w : World) : OwnE w (.slice none 0 0) [] := World.ownsRow_nil _ _ _ _
theorem OwnE.only {S : Nat → Prop} {w w' : World} {v : Value} {l : List En} (h : OwnE w v l) (ho : Only S w w') (hs : ∀ k, v.ownBlock = some k → ¬ S k) : OwnE w' v l := owns_only ho h hs
theorem OwnE.lt {w : World} {v : Value} {l : List En} (h : OwnE w v l) {q : Nat} (hq : v.ownBlock = some q) : q < w.heap.size := by
  rcases h.2 with ⟨hv, hn⟩ | ⟨g, cap, cur, hv, hg, hh, _⟩
  · rw [hv] at hq; simp [Value.ownBlock] at hq
  · rw [hv] at hq; have e : g = q := (by simpa [Value.ownBlock] using hq); rw [← e]; exact heap_lt hh
def ReadsE (w : World) (a : Option Addr) (len : Nat) (l : List En) : Prop := l.length = len ∧ (len = 0 ∨ ∃ g, a = some ⟨g, 0, none⟩ ∧ ∀ k, k < len → w.cell? ⟨g, k * 2, none⟩ = some (.int .i64 (l.getD k default).kd) ∧ w.cell? ⟨g, k * 2 + 1, none⟩ = some (.slice (some ⟨(l.getD k default).b, 0, none⟩) (l.getD k default).ls.length (l.getD k default).cp))
theorem OwnE.reads {w : World} {v : Value} {l : List En} (h : OwnE w v l) : ∃ a cap, v = .slice a l.length cap ∧ l.length ≤ cap ∧ cap ≤ maxLen ∧ ReadsE w a l.length l ∧ ∀ y, a = some y → v.ownBlock = some y.block := by
  have h0 := h; rcases h.2 with ⟨hv, hn⟩ | ⟨g, cap, cur, hv, hg, hh, hc, hm, _⟩
  · have hl : l = [] := List.eq_nil_of_length_eq_zero hn; subst hl; exact ⟨none, 0, hv, Nat.le_refl _, by unfold maxLen; omega, ⟨rfl, .inl rfl⟩, fun y e => by cases e⟩
  · refine ⟨_, cap, hv, hc, hm, ⟨rfl, .inr ⟨g, rfl, fun k hk => ?_⟩⟩, fun y e => by cases e; rw [hv]; rfl⟩; have h1 : w.ownsRow 0 67 2 (.slice (some ⟨g, 0, none⟩) l.length cap) l.length (ev l) := (by rw [← hv]; exact h0); have e : ∀ c, c < 2 → w.cell? ⟨g, k * 2 + c, none⟩ = (encE (l.getD k default))[c]? := fun c hc => by
      rw [h1.cellAt (k * 2 + c) (by omega), ev_get l k c hk hc]
    exact ⟨e 0 (by omega), e 1 (by omega)⟩
theorem ReadsE.only {S : Nat → Prop} {w w' : World} {a : Option Addr} {len : Nat} {l : List En} (h : ReadsE w a len l) (ho : Only S w w') (hs : ∀ x, a = some x → ¬ S x.block) : ReadsE w' a len l := by
  refine ⟨h.1, h.2.imp (fun x => x) fun ⟨g, e, hc⟩ => ⟨g, e, fun k hk => ?_⟩⟩; obtain ⟨c0, c1⟩ := hc k hk; have hn : ¬ S g := hs _ e; exact ⟨ho.cell' c0 hn, ho.cell' c1 hn⟩
structure EnsOk (w : World) (l : List En) (D : List jnw.Es) : Prop where
  len : l.length = D.length
  eq : ∀ k, k < l.length → (l.getD k default).kd = (D.getD k default).kd ∧ (l.getD k default).ls = (D.getD k default).ls
  rd : ∀ k, k < l.length → (l.getD k default).b < w.heap.size ∧ entw.ReadsL w (some ⟨(l.getD k default).b, 0, none⟩) (l.getD k default).ls.length (l.getD k default).ls
theorem EnsOk.nil (w : World) : EnsOk w [] [] := ⟨rfl, fun k hk => absurd hk (Nat.not_lt_zero k), fun k hk => absurd hk (Nat.not_lt_zero k)⟩
theorem EnsOk.only {S : Nat → Prop} {w w' : World} {l : List En} {D : List jnw.Es} (h : EnsOk w l D) (ho : Only S w w') (hs : ∀ k, k < l.length → ¬ S (l.getD k default).b) : EnsOk w' l D :=
  ⟨h.len, h.eq, fun k hk => ⟨by have := (h.rd k hk).1; have := ho.size; omega, (h.rd k hk).2.only ho (fun x hx => by cases hx; exact hs k hk)⟩⟩
theorem EnsOk.snoc {w : World} {l : List En} {D : List jnw.Es} (h : EnsOk w l D) (x : En) (d : jnw.Es) (h1 : x.kd = d.kd) (h2 : x.ls = d.ls) (h3 : x.b < w.heap.size) (h4 : entw.ReadsL w (some ⟨x.b, 0, none⟩) x.ls.length x.ls) : EnsOk w (l ++ [x]) (D ++ [d]) := by
  have key : ∀ k, k < (l ++ [x]).length → (k < l.length ∧ (l ++ [x]).getD k default = l.getD k default ∧ (D ++ [d]).getD k default = D.getD k default) ∨ ((l ++ [x]).getD k default = x ∧ (D ++ [d]).getD k default = d) := fun k hk => by
    rw [List.length_append, List.length_singleton] at hk; have hl := h.len; simp only [List.getD]; by_cases e : k < l.length
    · rw [List.getElem?_append_left e, List.getElem?_append_left (by omega)]; exact .inl ⟨e, rfl, rfl⟩
    · obtain rfl : k = l.length := (by omega); rw [List.getElem?_append_right (Nat.le_refl _), List.getElem?_append_right (by omega), hl, Nat.sub_self]; exact .inr ⟨rfl, rfl⟩
  refine ⟨by rw [List.length_append, List.length_append, h.len]; rfl, fun k hk => ?_, fun k hk => ?_⟩
  · rcases key k hk with ⟨e, e1, e2⟩ | ⟨e1, e2⟩
    · rw [e1, e2]; exact h.eq k e
    · rw [e1, e2]; exact ⟨h1, h2⟩
  · rcases key k hk with ⟨e, e1, _⟩ | ⟨e1, _⟩
    · rw [e1]; exact h.rd k e
    · rw [e1]; exact ⟨h3, h4⟩
theorem OwnE.readsD {w : World} {v : Value} {l : List En} {D : List jnw.Es} (h : OwnE w v l) (hk : EnsOk w l D) : ∃ a cap, v = .slice a D.length cap ∧ D.length ≤ cap ∧ cap ≤ maxLen ∧ ReadsD w a D := by
  obtain ⟨a, cap, hv, hc, hm, hr, _⟩ := h.reads; rw [hk.len] at hv hc; refine ⟨a, cap, hv, hc, hm, ?_⟩; rcases hr.2 with h0 | ⟨g, e, hcell⟩
  · exact .inl (by rw [← hk.len]; exact h0)
  · refine .inr ⟨g, e, fun k hkk => ?_⟩; rw [← hk.len] at hkk; obtain ⟨c0, c1⟩ := hcell k hkk; obtain ⟨e1, e2⟩ := hk.eq k hkk; obtain ⟨r1, r2⟩ := hk.rd k hkk; rw [e1] at c0; rw [e2] at c1 r2; exact ⟨_, 0, _, c0, c1, r1, r2⟩
structure Lw (base : Nat) (w : World) (lv vv : Value) (l : List En) (D Dv : List jnw.Es) : Prop where
  ol : OwnE w lv l
  ok : EnsOk w l D
  ov : tre.OwnI w vv (jnw.whens Dv)
  bl : ∀ q, lv.ownBlock = some q → (base ≤ q ∧ q < w.heap.size) ∧ vv.ownBlock ≠ some q ∧ ∀ j, j < l.length → (l.getD j default).b ≠ q
  bv : ∀ q, vv.ownBlock = some q → (base ≤ q ∧ q < w.heap.size) ∧ ∀ j, j < l.length → (l.getD j default).b ≠ q
theorem Lw.nil (base : Nat) (w : World) : Lw base w (.slice none 0 0) (.slice none 0 0) [] [] [] := ⟨OwnE.nil w, EnsOk.nil w, tre.OwnI.nil w, fun q e => (by cases e), fun q e => (by cases e)⟩
theorem Lw.quiet {base : Nat} {w w' : World} {lv vv : Value} {l : List En} {D Dv : List jnw.Es} (h : Lw base w lv vv l D Dv) (ho : Only (fun _ => False) w w') : Lw base w' lv vv l D Dv :=
  ⟨h.ol.only ho (fun _ _ f => f), h.ok.only ho (fun _ _ f => f), h.ov.only ho (fun _ _ f => f), fun q e => ⟨⟨(h.bl q e).1.1, by have := (h.bl q e).1.2; have := ho.size; omega⟩, (h.bl q e).2⟩, fun q e => ⟨⟨(h.bv q e).1.1, by have := (h.bv q e).1.2; have := ho.size; omega⟩, (h.bv q e).2⟩⟩
theorem getD_snoc {l : List En} {x : En} {j : Nat} (hj : j < (l ++ [x]).length) : (j < l.length ∧ (l ++ [x]).getD j default = l.getD j default) ∨ (l ++ [x]).getD j default = x := by
  rw [List.length_append, List.length_singleton] at hj; simp only [List.getD]; by_cases e : j < l.length
  · rw [List.getElem?_append_left e]; exact .inl ⟨e, rfl⟩
  · obtain rfl : j = l.length := (by omega); rw [List.getElem?_append_right (Nat.le_refl _), Nat.sub_self]; exact .inr rfl
theorem Lw.entry {base : Nat} {w w' : World} {lv vv v9 : Value} {l : List En} {D Dv : List jnw.Es} (h : Lw base w lv vv l D Dv) (hb : base ≤ w.heap.size) (x : En) (d : jnw.Es) (h1 : x.kd = d.kd) (h2 : x.ls = d.ls) (h3 : x.b < w.heap.size) (h4 : entw.ReadsL w (some ⟨x.b, 0, none⟩) x.ls.length x.ls) (hx : ∀ q, lv.ownBlock = some q ∨ vv.ownBlock = some q → x.b ≠ q)
    (hw : OwnE w' v9 (l ++ [x])) (ho : Only (fun q => lv.ownBlock = some q) w w') (hk : ∀ q, v9.ownBlock = some q → lv.ownBlock = some q ∨ w.heap.size ≤ q) : Lw base w' v9 vv (l ++ [x]) (D ++ [d]) Dv := by
  have hs := ho.size; have hE : EnsOk w (l ++ [x]) (D ++ [d]) := h.ok.snoc x d h1 h2 h3 h4; refine ⟨hw, hE.only ho (fun j hj e => ?_), h.ov.only ho (fun q e1 e2 => (h.bl q e2).2.1 e1), fun q e => ⟨⟨?_, hw.lt e⟩, fun e2 => ?_, fun j hj e3 => ?_⟩, fun q e => ⟨⟨(h.bv q e).1.1, by have := (h.bv q e).1.2; omega⟩, fun j hj e3 => ?_⟩⟩
  · rcases getD_snoc hj with ⟨e1, e2⟩ | e2
    · rw [e2] at e; exact (h.bl _ e).2.2 j e1 rfl
    · rw [e2] at e; exact hx _ (.inl e) rfl
  · rcases hk q e with e1 | e1
    · exact (h.bl q e1).1.1
    · omega
  · rcases hk q e with e1 | e1
    · exact (h.bl q e1).2.1 e2
    · have := (h.bv q e2).1.2; omega
  · rcases hk q e with e1 | e1
    · rcases getD_snoc hj with ⟨e4, e5⟩ | e5
      · rw [e5] at e3; exact (h.bl q e1).2.2 j e4 e3
      · rw [e5] at e3; exact hx q (.inl e1) e3
    · have := (hE.rd j hj).1; omega
  · rcases getD_snoc hj with ⟨e4, e5⟩ | e5
    · rw [e5] at e3; exact (h.bv q e).2 j e4 e3
    · rw [e5] at e3; exact hx q (.inr e) e3
theorem Lw.whenP {base : Nat} {w w' : World} {lv vv v9 : Value} {l : List En} {D Dv : List jnw.Es} (h : Lw base w lv vv l D Dv) (hb : base ≤ w.heap.size) (d : jnw.Es) (hw : tre.OwnI w' v9 (jnw.whens (Dv ++ [d]))) (ho : Only (fun q => vv.ownBlock = some q) w w') (hk : ∀ q, v9.ownBlock = some q → vv.ownBlock = some q ∨ w.heap.size ≤ q) (hlt : ∀ q, v9.ownBlock = some q → q < w'.heap.size) : Lw base w' lv v9 l D (Dv ++ [d]) := by
  have hs := ho.size; refine ⟨h.ol.only ho (fun q e1 e2 => (h.bl q e1).2.1 e2), h.ok.only ho (fun j hj e => (h.bv _ e).2 j hj rfl), hw, fun q e => ⟨⟨(h.bl q e).1.1, by have := (h.bl q e).1.2; omega⟩, fun e2 => ?_, (h.bl q e).2.2⟩, fun q e => ⟨⟨?_, hlt q e⟩, fun j hj e3 => ?_⟩⟩
  · rcases hk q e2 with e1 | e1
    · exact (h.bl q e).2.1 e1
    · have := (h.bl q e).1.2; omega
  · rcases hk q e with e1 | e1
    · exact (h.bv q e1).1.1
    · omega
  · rcases hk q e with e1 | e1
    · exact (h.bv q e1).2 j hj e3
    · have := (h.ok.rd j hj).1; omega
theorem PDS.atD {Sp Sd : Nat → Prop} {base p q pb pj n op : Nat} {A : List fnd.Ac} {C : AcC → Option (List Int)} {L : List jnw.Ps} {vL vW : Value} {D : List jnw.Es} {w : World} (h : PDS Sp Sd base p q pb pj n op A C L vL vW D w) (k : Nat) (hk : k < D.length) :
    Calls Tryz.prog 26 #[.pointer (some ⟨pj, 0, none⟩), .int .i64 (k : Int)] w fun e w' => ∃ g cp, e = .returned (.tuple #[.agg #[.int .i64 (D.getD k default).kd, .slice (some ⟨g, 0, none⟩) (D.getD k default).ls.length cp], .int .i64 ((D.getD k default).per : Int), .int .i64 0]) ∧ entw.ReadsL w' (some ⟨g, 0, none⟩) (D.getD k default).ls.length (D.getD k default).ls ∧ w.heap.size ≤ g ∧ g < w'.heap.size ∧ Only (fun _ => False) w w' := by
  obtain ⟨kd, g0, c0, per, cd, ls, gL, gW, cL9, cW, b, off, hvL, hvW, hLx, hl64, hin, hrl, e0, e1, e2⟩ := h.ent k hk; have hlen := h.len; have heq : pq (L.getD k default) = dq (D.getD k default) := by
    have e1 : (L.map pq)[k]? = some (pq (L.getD k default)) := (by rw [List.getElem?_map, List.getD_eq_getElem?_getD, List.getElem?_eq_getElem (by omega)]; rfl); have e2 : (D.map dq)[k]? = some (dq (D.getD k default)) := (by rw [List.getElem?_map, List.getD_eq_getElem?_getD, List.getElem?_eq_getElem hk]; rfl); rw [h.sq, e2] at e1; exact (Option.some.inj e1).symm
  obtain ⟨v, mm, nn, hj9⟩ := h.pv.pu.jn; have hat := jnw.at_any pj op v mm nn C L k (by omega) kd g0 ls.length c0 per ls hLx w hj9; rw [hLx] at heq; generalize D.getD k default = d at *; obtain ⟨dk, da, dn, dc, dp, dl⟩ := d; unfold pq dq at heq; simp only [Prod.mk.injEq] at heq; obtain ⟨e4, e5, e6⟩ := heq; subst e4 e5 e6; refine hat.mono ?_; rintro _ w' ⟨g, cp, rfl, hown, hgx, ho⟩; have hlt : g < w'.heap.size := by
    rcases hown.2 with ⟨hv, _⟩ | ⟨g2, cap, cur, hv, hg, hh, _⟩
    · cases hv
    · injection hv with e1 _ _; injection e1 with e1; injection e1 with e1 _ _; rw [e1]; exact heap_lt hh
  exact ⟨g, cp, rfl, entw.OwnL.reads hown rfl (by dsimp only; omega) hin, hgx, hlt, ho⟩
def mapT (A : List fnd.Ac) (m : Nat) : Nat → Option fnd.Ac := fun i => if (1 ≤ i ∧ i < m) ∧ A.getD i fnd.zA ≠ fnd.zA then some (A.getD i fnd.zA) else none
theorem mapT_start (A : List fnd.Ac) : mapT A 1 = fun _ => none := by
  funext i
  unfold mapT; rw [if_neg (fun x => by omega)]
theorem mapT_skip {A : List fnd.Ac} {m : Nat} (h : A.getD m fnd.zA = fnd.zA) : mapT A (m + 1) = mapT A m := by
  funext i
  unfold mapT; by_cases e : i = m
  · subst e; rw [if_neg (fun x => x.2 h), if_neg (fun x => x.2 h)]
  · by_cases e2 : (1 ≤ i ∧ i < m) ∧ A.getD i fnd.zA ≠ fnd.zA
    · rw [if_pos ⟨⟨e2.1.1, by omega⟩, e2.2⟩, if_pos e2]
    · rw [if_neg (fun x => e2 ⟨⟨x.1.1, by omega⟩, x.2⟩), if_neg e2]
theorem mapT_put {A : List fnd.Ac} {m : Nat} (hm : 1 ≤ m) (h : A.getD m fnd.zA ≠ fnd.zA) : mapT A (m + 1) = mpf.updC (mapT A m) m (A.getD m fnd.zA) := by
  funext i
  unfold mapT mpf.updC; by_cases e : i = m
  · subst e; rw [if_pos ⟨⟨hm, by omega⟩, h⟩, if_pos rfl]
  · rw [if_neg e]; dsimp only; by_cases e2 : (1 ≤ i ∧ i < m) ∧ A.getD i fnd.zA ≠ fnd.zA
    · rw [if_pos ⟨⟨e2.1.1, by omega⟩, e2.2⟩, if_pos e2]
    · rw [if_neg (fun x => e2 ⟨⟨x.1.1, by omega⟩, x.2⟩), if_neg e2]
theorem mapT_get (A : List fnd.Ac) {i : Nat} (hi : 1 ≤ i ∧ i < 33) : (mapT A 33 i).getD fnd.zA = A.getD i fnd.zA := by
  unfold mapT; by_cases e : A.getD i fnd.zA = fnd.zA
  · rw [if_neg (fun x => x.2 e), e]; rfl
  · rw [if_pos ⟨hi, e⟩]; rfl
theorem mapT_all {A : List fnd.Ac} (h : fnd.Bok A) : mpf.allA (mapT A 33) = A := by
  refine mpf.acs_ext (mpf.allA_len _) h.len (fun i hi => ?_); rw [mpf.allA_get _ hi]; rcases Nat.eq_zero_or_pos i with e | e
  · subst e; rw [h.z]; unfold mapT; rw [if_neg (fun x => by omega)]
    rfl
  · exact mapT_get A ⟨e, hi⟩
theorem ownI_lt {w : World} {v : Value} {l : List Int} (h : tre.OwnI w v l) {q : Nat} (hq : v.ownBlock = some q) : q < w.heap.size := by
  rcases h.2 with ⟨hv, hn⟩ | ⟨g, cap, cur, hv, hg, hh, _⟩
  · rw [hv] at hq; simp [Value.ownBlock] at hq
  · rw [hv] at hq; have e : g = q := (by simpa [Value.ownBlock] using hq); rw [← e]; exact heap_lt hh
theorem upd_all {A : List fnd.Ac} (h : fnd.Bok A) {nn : Nat} (hn : 1 ≤ nn ∧ nn < 33) (a' : fnd.Ac) {m : Nat} (hm : 1 ≤ m ∧ m < 33) : (mpf.allA (mpf.updC (mapT A 33) nn a')).getD m fnd.zA = if m = nn then a' else A.getD m fnd.zA := by
  rw [mpf.allA_get _ hm.2]; unfold mpf.updC; by_cases e : m = nn
  · rw [if_pos e, if_pos e]; rfl
  · rw [if_neg e, if_neg e]; exact mapT_get A hm
theorem map_nocell {w : World} {mb n : Nat} {C : Nat → Option fnd.Ac} (h : mpf.MapC w mb n C) {q : Addr} {v : Value} (hc : w.cell? q = some v) : q.block ≠ mb := by
  intro e; obtain ⟨D, ⟨es, clock, hh, _⟩, _⟩ := h; simp [World.cell?, e, hh] at hc
theorem keepL {w w' : World} {mb n : Nat} {C : Nat → Option fnd.Ac} (hm : mpf.MapC w mb n C) (ho : Only (fun x => x = mb) w w') {a : Option Addr} {len : Nat} {ls : List Lg} (h : entw.ReadsL w a len ls) : entw.ReadsL w' a len ls := by
  obtain ⟨h1, h2, h3, h4⟩ := h; refine ⟨h1, h2, h3, ?_⟩; rcases h4 with h4 | ⟨b, off, ha, hc⟩
  · exact .inl h4
  · refine .inr ⟨b, off, ha, fun i hi => ?_⟩; obtain ⟨c0, c1, c2, c3⟩ := hc i hi; have hn : ¬ b = mb := map_nocell hm c0; exact ⟨ho.cell' c0 hn, ho.cell' c1 hn, ho.cell' c2 hn, ho.cell' c3 hn⟩
theorem keepI {w w' : World} {mb n : Nat} {C : Nat → Option fnd.Ac} (hm : mpf.MapC w mb n C) (ho : Only (fun x => x = mb) w w') {a : Option Addr} {len : Nat} {l : List Int} (h : ReadsI w a len l) : ReadsI w' a len l := by
  obtain ⟨h1, h2, h3, h4⟩ := h; refine ⟨h1, h2, h3, ?_⟩; rcases h4 with h4 | ⟨b, off, ha, hc⟩
  · exact .inl h4
  · refine .inr ⟨b, off, ha, fun i hi => ?_⟩; exact ho.cell' (hc i hi) (map_nocell hm (hc i hi))
theorem keepD {w w' : World} {mb n : Nat} {C : Nat → Option fnd.Ac} (hm : mpf.MapC w mb n C) (ho : Only (fun x => x = mb) w w') {a : Option Addr} {D : List jnw.Es} (h : ReadsD w a D) : ReadsD w' a D := by
  rcases h with h | ⟨g, e, h⟩
  · exact .inl h
  · refine .inr ⟨g, e, fun k hk => ?_⟩; obtain ⟨b, off, cp, h1, h2, h3, h4⟩ := h k hk; have hn : ¬ g = mb := map_nocell hm h1; exact ⟨b, off, cp, ho.cell' h1 hn, ho.cell' h2 hn, by have := ho.size; omega, keepL hm ho h4⟩
theorem rest_two {mb op nn : Nat} {A : List fnd.Ac} {D : List jnw.Es} {C : AcC → Option (List Int)} {L : List jnw.Ps} {B : Int} (al ap : Option Addr) (cl cp : Nat) (w : World) (hn : 1 ≤ nn ∧ nn < 33) (a' : fnd.Ac) (hleft : fnd.left a' = fnd.left (A.getD nn fnd.zA) + 1)
    (hm : mpf.MapC w mb 33 (mpf.updC (mapT A 33) nn a')) (hbok : fnd.Bok A) (hrd : ReadsD w al D) (hrp : ReadsI w ap D.length (jnw.whens D)) (rp : Rp D) (hD : D.length ≤ 16384) (hop : op < 32) (hlk : lkc.Lk op C L D) (hbd : jnw.Bnd C B) (hB : B ≤ 1152921504606846976) (hag : Agree A op C) :
    Calls Tryz.prog 27 #[.map (some mb), .slice al D.length cl, .slice ap D.length cp, .int .i64 (op : Int)] w fun e w' => (∃ f : Int, e = .returned (.tuple #[.pointer none, .int .i64 f]) ∧ (f = 20 ∨ f = 1)) ∧ Only (fun _ => False) w w' := by
  have hM0 : mpf.updC (mapT A 33) nn a' 0 = none := by
    unfold mpf.updC mapT; rw [if_neg (by omega)]; rw [if_neg (fun x => by omega)]
  by_cases hR : fnd.Right a'
  · have HRI : ∀ i a, mpf.updC (mapT A 33) nn a' i = some a → fnd.Right a := fun i a h => by
      unfold mpf.updC at h; by_cases e : i = nn
      · rw [if_pos e] at h; injection h with h; rw [← h]; exact hR
      · rw [if_neg e] at h; unfold mapT at h; split at h
        · injection h with h; rw [← h]; exact hbok.ok i
        · cases h
    refine (@rest_any mb (mpf.updC (mapT A 33) nn a') D op op C L B al ap cl cp w hm hM0 HRI hrd hrp rp hD hop hlk hbd hB nn ⟨hn.1, by omega⟩ (fun m h1 h2 => by
      rw [upd_all hbok hn a' ⟨h1, by omega⟩, if_neg (by omega)]; have h3 := hag.left m ⟨h1, by omega⟩; have h4 := hag.held m ⟨h1, by omega⟩; have h5 := hag.used m ⟨h1, by omega⟩; exact ⟨by omega, by omega, h5⟩) (fun _ => by
      rw [upd_all hbok hn a' hn, if_pos rfl]; have h3 := hag.left nn ⟨hn.1, by omega⟩; omega)).mono ?_
    rintro e w' ⟨⟨-, rfl⟩ | ⟨h, -⟩, ho⟩
    · exact ⟨⟨20, rfl, .inl rfl⟩, ho⟩
    · omega
  · have hwl : (jnw.whens D).length = D.length := (by simp [jnw.whens]); have hwg : ∀ k, k < D.length → (jnw.whens D).getD k 0 = ((D.getD k default).per : Int) := fun k hk => (by simp [jnw.whens, List.getD, hk]); have hri : Rises (jnw.whens D) := fun i hi => by
      rw [hwl] at hi; rw [hwg i (by omega), hwg (i + 1) hi]; exact Int.ofNat_le.2 (rp.le (Nat.lt_succ_self i) hi)
    refine (@rest_bad mb (mpf.updC (mapT A 33) nn a') op al ap D.length cl cp (jnw.whens D) w hm hM0 nn a' (by unfold mpf.updC; rw [if_pos rfl]) hR hrp hri hop (by
      by_cases e : D.length = 0
      · exact .inl e
      · refine .inr ⟨by rw [hwg 0 (by omega)]; omega, ?_⟩; rw [hwg _ (by omega)]; have := hlk.le _ (getD_mem (zs := D) (j := D.length - 1) (by omega)); omega)).mono ?_
    rintro e w' ⟨rfl, ho⟩; exact ⟨⟨1, rfl, .inr rfl⟩, ho⟩
theorem good_one : puw.Good 1 1 0 [1] := ⟨by decide, by decide, by decide, by decide, fun n hn => by rw [List.mem_singleton] at hn; omega, fun _ => rfl, fun h => by omega⟩
theorem make_one (a : Option Addr) (cap : Nat) (w : World) (h : ReadsI w a 1 [1]) :
    Calls Tryz.prog 28 #[.int .i64 1, .int .i64 1, .slice a 1 cap, .int .i64 0] w fun e w' => (∃ b c, e = .returned (.tuple #[.agg #[.int .i64 1, .slice b 2 c], .int .i64 0])) ∧ Only (fun _ => False) w w' := by
  refine (entw.rmakef_any 1 1 0 (by unfold entw.InI; omega) a 1 cap [1] w h).mono ?_; rintro e w' (⟨h1, -⟩ | ⟨h1, a2, cp, ls, h2, h3, ho, -, ⟨h6, rfl⟩ | ⟨h6, rfl⟩⟩)
  · exact absurd (by decide) h1
  · have hl : ls.length = 2 := (by rw [h2.length_eq]; decide); rw [hl]; exact ⟨⟨_, _, rfl⟩, ho⟩
  · exact absurd (good_one.chk0 h2 h3) h6
end Go.Proofs.YtkbaafgaaiekpaaGreat.pdw
