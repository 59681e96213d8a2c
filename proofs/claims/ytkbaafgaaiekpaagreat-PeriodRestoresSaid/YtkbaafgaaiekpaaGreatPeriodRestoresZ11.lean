/- Several texts together: JnH. -/
import Derived.Test.YtkbaafgaaiekpaaGreatPeriodRestoresZ2
import Derived.Test.YtkbaafgaaiekpaaGreatPeriodRestoresZ10
namespace Go.Proofs.YtkbaafgaaiekpaaGreat.jnw
open Go.RowKit mem accm accn entw entm
set_option linter.unusedVariables false
structure Ps where
  kd : Int
  g : Nat
  len : Nat
  cp : Nat
  per : Nat
  ls : List Lg
deriving Inhabited
def encP (x : Ps) : List Value := [.int .i64 x.kd, .slice (some ⟨x.g, 0, none⟩) x.len x.cp, .int .i64 (x.per : Int)]
def pv (l : List Ps) : List Value := l.flatMap encP
theorem pv_cons (x : Ps) (r : List Ps) : pv (x :: r) = encP x ++ pv r := by simp [pv]
theorem pv_append (a b : List Ps) : pv (a ++ b) = pv a ++ pv b := by simp [pv]
theorem pv_one (l : List Ps) : ∀ u ∈ pv l, u.oneCell' = true := by
  intro u hu; simp only [pv, List.mem_flatMap] at hu; obtain ⟨x, _, hx⟩ := hu; simp [encP] at hx; rcases hx with rfl | rfl | rfl <;> rfl
theorem pv_drop : ∀ (l : List Ps) (k : Nat), (pv l).drop (k * 3) = pv (l.drop k) := by
  intro l
  induction l with
  | nil => intro k; simp [pv]
  | cons x r ih =>
    intro k
    cases k with
    | zero => simp [pv]
    | succ k =>
      have e : (k + 1) * 3 = k * 3 + 3 := (by omega); rw [e, List.drop_succ_cons, pv_cons, ← ih k]
      rfl
theorem pv_get (l : List Ps) (i c : Nat) (hi : i < l.length) (hc : c < 3) : (pv l)[i * 3 + c]? = (encP (l.getD i default))[c]? := by
  have h : l.drop i = l.getD i default :: l.drop (i + 1) := (by rw [List.drop_eq_getElem_cons hi]; simp [List.getD, hi]); rw [← List.getElem?_drop, pv_drop, h, pv_cons, List.getElem?_append_left (by show c < 3; exact hc)]
def OwnP (w : World) (v : Value) (l : List Ps) : Prop := w.ownsRow 0 103 3 v l.length (pv l)
theorem OwnP.nil (w : World) : OwnP w (.slice none 0 0) [] := World.ownsRow_nil _ _ _ _
theorem OwnP.only {S : Nat → Prop} {w w' : World} {v : Value} {l : List Ps} (h : OwnP w v l) (ho : Only S w w') (hs : ∀ k, v.ownBlock = some k → ¬ S k) : OwnP w' v l := owns_only ho h hs
theorem OwnP.lt {w : World} {v : Value} {l : List Ps} (h : OwnP w v l) {q : Nat} (hq : v.ownBlock = some q) : q < w.heap.size := by
  rcases h.2 with ⟨hv, hn⟩ | ⟨g, cap, cur, hv, hg, hh, _⟩
  · rw [hv] at hq; simp [Value.ownBlock] at hq
  · rw [hv] at hq; have e : g = q := (by simpa [Value.ownBlock] using hq); rw [← e]; exact heap_lt hh
def ReadsP (w : World) (a : Option Addr) (len : Nat) (l : List Ps) : Prop := l.length = len ∧ (len = 0 ∨ ∃ g, a = some ⟨g, 0, none⟩ ∧ ∀ k, k < len → w.cell? ⟨g, k * 3, none⟩ = some (.int .i64 (l.getD k default).kd) ∧ w.cell? ⟨g, k * 3 + 1, none⟩ = some (.slice (some ⟨(l.getD k default).g, 0, none⟩) (l.getD k default).len (l.getD k default).cp) ∧ w.cell? ⟨g, k * 3 + 2, none⟩ = some (.int .i64 ((l.getD k default).per : Int)))
theorem OwnP.reads {w : World} {v : Value} {l : List Ps} (h : OwnP w v l) : ∃ a cap, v = .slice a l.length cap ∧ l.length ≤ cap ∧ cap ≤ maxLen ∧ ReadsP w a l.length l ∧ ∀ y, a = some y → v.ownBlock = some y.block := by
  have h0 := h; rcases h.2 with ⟨hv, hn⟩ | ⟨g, cap, cur, hv, hg, hh, hc, hm, _⟩
  · have hl : l = [] := List.eq_nil_of_length_eq_zero hn; subst hl; exact ⟨none, 0, hv, Nat.le_refl _, by unfold maxLen; omega, ⟨rfl, .inl rfl⟩, fun y e => by cases e⟩
  · refine ⟨_, cap, hv, hc, hm, ⟨rfl, .inr ⟨g, rfl, fun k hk => ?_⟩⟩, fun y e => by cases e; rw [hv]; rfl⟩; have h1 : w.ownsRow 0 103 3 (.slice (some ⟨g, 0, none⟩) l.length cap) l.length (pv l) := (by rw [← hv]; exact h0); have e : ∀ c, c < 3 → w.cell? ⟨g, k * 3 + c, none⟩ = (encP (l.getD k default))[c]? := fun c hc => by
      rw [h1.cellAt (k * 3 + c) (by omega), pv_get l k c hk hc]
    exact ⟨e 0 (by omega), e 1 (by omega), e 2 (by omega)⟩
theorem ReadsP.only {S : Nat → Prop} {w w' : World} {a : Option Addr} {len : Nat} {l : List Ps} (h : ReadsP w a len l) (ho : Only S w w') (hs : ∀ x, a = some x → ¬ S x.block) : ReadsP w' a len l := by
  refine ⟨h.1, h.2.imp (fun x => x) fun ⟨g, e, hc⟩ => ⟨g, e, fun k hk => ?_⟩⟩; obtain ⟨c0, c1, c2⟩ := hc k hk; have hn : ¬ S g := hs _ e; exact ⟨ho.cell' c0 hn, ho.cell' c1 hn, ho.cell' c2 hn⟩
theorem info_ps : (Tryz.prog.info? 103).map (fun i => (i.zero, i.size, i.bytes)) = some (some (Value.agg #[.int .i64 0, .slice none 0 0, .int .i64 0]), 3, 40) := by kernel_rfl
theorem step_post {ops : Array Oper} {o : Oper} {a : Act} {w : World} {K : Act → World → Prop} {Q : Exit → Act → World → Prop} {E : Prop}
    (hg : o.guard = none) (s x : Operand) (ho : o.op = Op.call { callee := Callee.builtin Builtin.append, args := #[s, x], argTypes := #[97, 97] })
    (v : Value) (xs : List Ps) (hs : a.eval s = v) (hown : OwnP w v xs) (g c : Nat) (d : Ps) (hx : a.eval x = .slice (some ⟨g, 0, none⟩) 1 c) (hn : ∀ j u, (encP d)[j]? = some u → w.cell? ⟨g, j, none⟩ = some u) (hb : xs.length ≤ 20000)
    (hK : ∀ v' w', OwnP w' v' (xs ++ [d]) → w.grownBy w' v.ownBlock → (∀ k, v'.ownBlock = some k → v.ownBlock = some k ∨ w.heap.size ≤ k) → K (a.put o.dst v') w') :
    if Region.wanted o (yielded ops a.tmps) = true then Oper.wp Tryz.prog o a w K Q else E := by
  obtain ⟨i0, hi, hz0, hz1, hz2⟩ := info_parts info_ps; refine step_mine hg s x 97 ho 103 i0 _ 3 40 Tryz.underlying97 hi hz0 hz1 hz2 rfl (by decide) v xs.length _ hs hown ⟨g, 0, none⟩ 1 c (encP d) hx rfl (fun j u h => by rw [mem.add_none, Nat.zero_add]; exact hn j u h) (fun u hu => pv_one [d] u (by simpa [pv] using hu)) (by unfold maxLen; omega) (by omega) ?_; intro v' w' h1 h2 h3; refine hK v' w' ?_ h2 h3; unfold OwnP; rw [List.length_append, pv_append]; have e : pv [d] = encP d := (by simp [pv]); rw [e]; exact h1
def PsIn (S : Nat → Prop) (w : World) (p : Nat) (v : Value) (m : Option Nat) (op : Nat) (x : Ps) : Prop := ReadsL w (some ⟨x.g, 0, none⟩) x.len x.ls ∧ chk x.kd x.ls = 0 ∧ x.per ≤ op ∧ S x.g ∧ x.g ≠ p ∧ v.ownBlock ≠ some x.g ∧ m ≠ some x.g
theorem PsIn.len {S : Nat → Prop} {w : World} {p : Nat} {v : Value} {m : Option Nat} {op : Nat} {x : Ps} (h : PsIn S w p v m op x) : 2 ≤ x.len ∧ x.len ≤ 64 := by
  have := ((chk_ok _ _).1 h.2.1).2.1; have := h.1.1; omega
theorem readsL_lt {w : World} {g n off : Nat} {ls : List Lg} (h : ReadsL w (some ⟨g, off, none⟩) n ls) (hn : 0 < n) : g < w.heap.size := by
  obtain ⟨b, o, e, hc⟩ := h.2.2.2.resolve_left (by omega); injection e with e; injection e with e1 e2; subst e1; exact World.block_lt_of_cell? w _ (hc 0 hn).1
theorem PsIn.lt {S : Nat → Prop} {w : World} {p : Nat} {v : Value} {m : Option Nat} {op : Nat} {x : Ps} (h : PsIn S w p v m op x) : x.g < w.heap.size := readsL_lt h.1 (by have := h.len; omega)
structure JnAt (S : Nat → Prop) (w : World) (p : Nat) (v : Value) (op : Nat) (m : Option Nat) (nn : Nat) (C : Ac → Option (List Int)) (L : List Ps) : Prop where
  jc : JnC w p v op m
  mp : MapN w m nn C
  own : OwnP w v L
  np : v.ownBlock ≠ some p
  sp : S p
  sv : ∀ q, v.ownBlock = some q → S q
  sm : ∀ b, m = some b → S b ∧ b ≠ p ∧ v.ownBlock ≠ some b
  nb : nn ≤ 64 * L.length
  len : L.length ≤ 16384
  pl : ∀ x ∈ L, PsIn S w p v m op x
theorem JnAt.lt {S : Nat → Prop} {w : World} {p : Nat} {v : Value} {op : Nat} {m : Option Nat} {nn : Nat} {C : Ac → Option (List Int)} {L : List Ps} (h : JnAt S w p v op m nn C L) : p < w.heap.size := World.block_lt_of_cell? w _ h.jc.c0
theorem MapN.lt {w : World} {m : Option Nat} {n : Nat} {C : Ac → Option (List Int)} (h : MapN w m n C) {b : Nat} (e : m = some b) : b < w.heap.size := by
  subst e; exact MapA.lt h
theorem PsIn.only {S T : Nat → Prop} {w w' : World} {p : Nat} {v : Value} {m : Option Nat} {op : Nat} {x : Ps} (h : PsIn S w p v m op x) (ho : Only T w w') (hT : ∀ q, S q → ¬ T q) : PsIn S w' p v m op x :=
  ⟨h.1.only ho (fun y e => by cases e; exact hT _ h.2.2.2.1), h.2⟩
theorem JnAt.only {S T : Nat → Prop} {w w' : World} {p : Nat} {v : Value} {op : Nat} {m : Option Nat} {nn : Nat} {C : Ac → Option (List Int)} {L : List Ps} (h : JnAt S w p v op m nn C L) (ho : Only T w w') (hT : ∀ q, S q → ¬ T q) : JnAt S w' p v op m nn C L :=
  ⟨h.jc.only ho (hT _ h.sp), h.mp.only ho (fun b e => hT _ (h.sm b e).1), h.own.only ho (fun k e => hT _ (h.sv k e)), h.np, h.sp, h.sv, h.sm, h.nb, h.len, fun x hx => (h.pl x hx).only ho hT⟩
theorem JnAt.quiet {S : Nat → Prop} {w w' : World} {p : Nat} {v : Value} {op : Nat} {m : Option Nat} {nn : Nat} {C : Ac → Option (List Int)} {L : List Ps} (h : JnAt S w p v op m nn C L) (ho : Only (fun _ => False) w w') : JnAt S w' p v op m nn C L := h.only ho (fun _ _ f => f)
theorem JnAt.mono {S T : Nat → Prop} {w : World} {p : Nat} {v : Value} {op : Nat} {m : Option Nat} {nn : Nat} {C : Ac → Option (List Int)} {L : List Ps} (h : JnAt S w p v op m nn C L) (hT : ∀ q, q < w.heap.size → S q → T q) : JnAt T w p v op m nn C L :=
  ⟨h.jc, h.mp, h.own, h.np, hT _ h.lt h.sp, fun q e => hT _ (h.own.lt e) (h.sv q e), fun b e => ⟨hT _ (h.mp.lt e) (h.sm b e).1, (h.sm b e).2⟩, h.nb, h.len, fun x hx => by obtain ⟨a1, a2, a3, a4, a5⟩ := h.pl x hx; exact ⟨a1, a2, a3, hT _ (h.pl x hx).lt a4, a5⟩⟩
theorem JnAt.new {S : Nat → Prop} {w : World} {p op : Nat} (h : JnC w p (.slice none 0 0) op none) (hp : S p) : JnAt S w p (.slice none 0 0) op none 0 (fun _ => none) [] :=
  ⟨h, fun _ => rfl, OwnP.nil w, (by simp [Value.ownBlock]), hp, (fun q e => by simp [Value.ownBlock] at e), (fun b e => by cases e), (by simp), (by simp), (fun x hx => by cases hx)⟩
theorem JnAt.close {S : Nat → Prop} {w w' : World} {p : Nat} {v : Value} {op : Nat} {m : Option Nat} {nn : Nat} {C : Ac → Option (List Int)} {L : List Ps} (h : JnAt S w p v op m nn C L) (hj : JnC w' p v (op + 1) m) (ho : Only (fun q => q = p) w w') : JnAt S w' p v (op + 1) m nn C L :=
  ⟨hj, h.mp.only ho (fun b e => (h.sm b e).2.1), h.own.only ho (fun k e e2 => h.np (by rw [e, e2])), h.np, h.sp, h.sv, h.sm, h.nb, h.len, fun x hx => by
    obtain ⟨a1, a2, a3, a4, a5, a6⟩ := h.pl x hx; exact ⟨a1.only ho (fun y e e2 => by cases e; exact a5 e2), a2, by omega, a4, a5, a6⟩⟩
theorem add_any (p op : Nat) (v : Value) (m : Option Nat) (nn : Nat) (C : Ac → Option (List Int)) (b off n cap : Nat) (ls : List Lg) (w : World) (h : JnC w p v op m) (hm : MapN w m nn C) (hr : ReadsL w (some ⟨b, off, none⟩) n ls) (hpm : ∀ mb, m = some mb → mb ≠ p ∧ b ≠ mb) (hbp : b ≠ p) (hbl : b < w.heap.size) (hnn : nn ≤ 10000000) (hn : n ≤ 64) :
    Calls Tryz.prog 72 #[.pointer (some ⟨p, 0, none⟩), .slice (some ⟨b, off, none⟩) n cap] w fun e w' => e = .returned (.tuple #[]) ∧ ∃ mb nn', JnC w' p v op (some mb) ∧ MapA w' mb nn' (addC C op ls) ∧ Only (fun q => q = p ∨ m = some q) w w' ∧ nn' ≤ nn + n ∧ (m = some mb ∨ w.heap.size ≤ mb) := by
  cases m with
  | none =>
    have hC : C = fun _ => none := funext hm; subst hC; refine (add_none p op v b off n cap ls w h hr hbp hbl hn).mono ?_; rintro _ w' ⟨rfl, mb, h1, h2, h3, h4⟩; exact ⟨rfl, mb, n, h1, h2, h3.mono (fun _ _ e => .inl e), by omega, .inr (by omega)⟩
  | some mb =>
    obtain ⟨k1, k2⟩ := hpm mb rfl; refine (add_some p op v mb nn C b off n cap ls w h hm hr k1 hbp k2 hnn hn).mono ?_; rintro _ w' ⟨rfl, h1, h2, h3⟩; exact ⟨rfl, mb, nn + n, h1, h2, h3.mono (fun _ _ e => .inr (by rw [e])), by omega, .inl rfl⟩
theorem ps_more {S : Nat → Prop} {w w9 w' : World} {p : Nat} {v v' : Value} {op : Nat} {m : Option Nat} {mb nn : Nat} {C : Ac → Option (List Int)} {L : List Ps} {d : Ps} (h : JnAt S w p v op m nn C L) (h09 : Only (fun q => q = p ∨ m = some q) w w9) (h9 : Only (fun q => q = p ∨ v.ownBlock = some q) w9 w')
    (hv : ∀ k, v'.ownBlock = some k → v.ownBlock = some k ∨ w9.heap.size ≤ k) (hmb : m = some mb ∨ w.heap.size ≤ mb)
    (hd : ReadsL w9 (some ⟨d.g, 0, none⟩) d.len d.ls) (hd1 : chk d.kd d.ls = 0) (hd2 : d.per ≤ op) (hg1 : w.heap.size ≤ d.g) (hg2 : d.g < w9.heap.size) (hg3 : mb ≠ d.g) :
    ∀ x ∈ L ++ [d], PsIn (fun q => S q ∨ w.heap.size ≤ q) w' p v' (some mb) op x := by
  have hp := h.lt; have hsz := h09.size; intro x hx; rcases List.mem_append.1 hx with hx | hx
  · have hlt := (h.pl x hx).lt; obtain ⟨a1, a2, a3, a4, a5, a6, a7⟩ := h.pl x hx; refine ⟨(a1.only h09 (fun y e q => by cases e; exact q.elim a5 a7)).only h9 (fun y e q => by cases e; exact q.elim a5 a6), a2, a3, .inl a4, a5, fun e => ?_, fun e => ?_⟩
    · rcases hv _ e with q | q
      · exact a6 q
      · omega
    · injection e with e; subst e; rcases hmb with q | q
      · exact a7 q
      · omega
  · rw [List.mem_singleton] at hx; subst hx; refine ⟨hd.only h9 (fun y e q => ?_), hd1, hd2, .inr hg1, by omega, fun e => ?_, fun e => ?_⟩
    · cases e
      rcases q with q | q
      · have q' : x.g = p := q; omega
      · have := h.own.lt q; have q2 : x.g < w.heap.size := this; omega
    · rcases hv _ e with q | q
      · have := h.own.lt q; omega
      · omega
    · injection e with e; exact hg3 e
end Go.Proofs.YtkbaafgaaiekpaaGreat.jnw
