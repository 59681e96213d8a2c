/- TimerAgain's walk. -/
import Derived.Test.YtiohdfplgpmcdaaTmJ
import Derived.Deep.CutRange
import Derived.Deep.CutBlock
namespace Go.Proofs.Ytiohdfplgpmcdaa.tmw
open Go.RowKit mem rowz
set_option linter.unusedVariables false

/-- a row of acts -/
def RowA (w : World) (a : Option Addr) (len : Nat) : Prop := len ≤ maxLen ∧ (len = 0 ∨ ∃ b off, a = some ⟨b, off, none⟩ ∧ ∀ i, i < len → ∃ x y z : Int, (InK x ∧ InK y ∧ InK z) ∧ w.cell? ⟨b, off + i * 3, none⟩ = some (.int .i64 x) ∧ w.cell? ⟨b, off + i * 3 + 1, none⟩ = some (.int .i64 y) ∧ w.cell? ⟨b, off + i * 3 + 2, none⟩ = some (.int .i64 z))
theorem left_ge (now : Int) : ∀ l : List Tm, l.Pairwise ltM → ∀ x ∈ leftM now l, now ≤ x.a
  | [], _ => fun x hx => by cases hx
  | y :: r, h => by
    have h' := List.pairwise_cons.1 h
    intro x hx
    unfold leftM at hx
    by_cases hy : y.a < now
    · rw [List.dropWhile_cons_of_pos (by simpa using hy)] at hx
      exact left_ge now r h'.2 x hx
    · rw [List.dropWhile_cons_of_neg (by simpa using hy)] at hx
      rcases List.mem_cons.1 hx with rfl | hx
      · omega
      · have := h'.1 x hx; unfold ltM at this; omega
theorem due_lt (now : Int) : ∀ l : List Tm, ∀ x ∈ dueM now l, x.a < now
  | [] => fun x hx => by cases hx
  | y :: r => by
    intro x hx
    unfold dueM at hx
    by_cases hy : y.a < now
    · rw [List.takeWhile_cons_of_pos (by simpa using hy)] at hx
      rcases List.mem_cons.1 hx with rfl | hx
      · exact hy
      · exact due_lt now r x hx
    · rw [List.takeWhile_cons_of_neg (by simpa using hy)] at hx
      cases hx
theorem due_mem (now : Int) (l : List Tm) (x : Tm) : x ∈ l ↔ x ∈ dueM now l ∨ x ∈ leftM now l := by
  conv => lhs; rw [← due_left now l]
  exact List.mem_append
theorem Good.uniq {l : List Tm} (h : Good l) {x y : Tm} (hx : x ∈ l) (hy : y ∈ l) (e : x.i = y.i) : x = y := by
  have h2 := h.2.1
  clear h
  induction l with
  | nil => cases hx
  | cons z r ih =>
    have h' : z.i ∉ r.map Tm.i ∧ (r.map Tm.i).Nodup := List.nodup_cons.1 h2
    rcases List.mem_cons.1 hx with rfl | hx'
    · rcases List.mem_cons.1 hy with rfl | hy'
      · rfl
      · exact absurd (List.mem_map.2 ⟨y, hy', e.symm⟩) h'.1
    · rcases List.mem_cons.1 hy with rfl | hy'
      · exact absurd (List.mem_map.2 ⟨x, hx', e⟩) h'.1
      · exact ih hx' hy' h'.2
/-- the others -/
def Oth (i : Nat) (l : List Tm) : Prop := l.length ≤ i ∧ ∀ x ∈ l, x.a < 100
theorem rem_le (g : Int) (l : List Tm) : (remM g l).length ≤ l.length := (remM_sub g l).length_le
theorem Oth.next {i : Nat} {l : List Tm} (h : Oth i l) (hg : Good l) {a g : Int} (ha : a < 100) : (remM g l).length ≤ i ∧ Oth (i + 1) (putM ⟨a, g⟩ l) := by
  obtain ⟨h1, h2⟩ := h
  have := rem_le g l
  refine ⟨by omega, ?_, fun x hx => ?_⟩
  · unfold putM
    rw [insM_len]
    show (remM g l).length + 1 ≤ _
    omega
  · rcases (put_mem _ x l hg.2.1).1 hx with rfl | ⟨hx, _⟩
    · exact ha
    · exact h2 x hx
/-- one time of the number, and few others -/
def Ag (g last : Int) (l : List Tm) : Prop := l.length ≤ 1000 ∧ (∀ x ∈ l, x.a < 100) ∧ (⟨last, g⟩ : Tm) ∈ l ∧ last < 100
theorem Ag.next {g last : Int} {l : List Tm} (h : Ag g last l) (hg : Good l) {a : Int} (ha : a < 100) : (remM g l).length < 1024 ∧ Ag g a (putM ⟨a, g⟩ l) := by
  obtain ⟨h1, h2, h3, h4⟩ := h
  have := remM_len g l ⟨_, h3, rfl⟩
  refine ⟨by omega, ?_, fun x hx => ?_, (put_mem _ _ l hg.2.1).2 (.inl rfl), ha⟩
  · unfold putM
    rw [insM_len]
    show (remM g l).length + 1 ≤ _
    omega
  · rcases (put_mem _ x l hg.2.1).1 hx with rfl | ⟨hx, _⟩
    · exact ha
    · exact h2 x hx
/-- what is left at a time -/
def At (g last : Int) (now : Int) (l : List Tm) (n : Int) : Prop := (∀ x ∈ l, now - 1 ≤ x.a ∧ x.a < 100) ∧ n = (if last + 1 < now then 1 else 0) ∧ (now ≤ last + 1 → (⟨last, g⟩ : Tm) ∈ l) ∧ (last + 1 < now → ∀ x ∈ l, x.i ≠ g)
/-- counted so far -/
def Cnt (g : Int) (ds : List Int) (j : Nat) (n0 n : Int) : Prop := n = n0 + (if g ∈ ds.take j then 1 else 0)
theorem mem_take_succ {ds : List Int} {j : Nat} (hj : j < ds.length) (g : Int) : g ∈ ds.take (j + 1) ↔ g ∈ ds.take j ∨ ds.getD j 0 = g := by
  have : ds.getD j 0 = ds[j] := by simp [List.getD, hj]
  rw [List.take_succ_eq_append_getElem hj, this, List.mem_append, List.mem_singleton]
  exact ⟨fun h => h.imp id Eq.symm, fun h => h.imp id Eq.symm⟩
theorem nodup_take {ds : List Int} (h : ds.Nodup) {j : Nat} (hj : j < ds.length) : ds.getD j 0 ∉ ds.take j := by
  have e : ds.getD j 0 = ds[j] := by simp [List.getD, hj]
  rw [e]
  intro hm
  have h2 : (ds.take j ++ ds[j] :: ds.drop (j + 1)).Nodup := by rw [← List.drop_eq_getElem_cons hj, List.take_append_drop]; exact h
  exact (List.nodup_append.1 h2).2.2 _ hm _ List.mem_cons_self rfl
theorem Cnt.hit {g : Int} {ds : List Int} {j : Nat} {n0 n : Int} (h : Cnt g ds j n0 n) (hd : ds.Nodup) (hj : j < ds.length) (e : ds.getD j 0 = g) : n = n0 ∧ Cnt g ds (j + 1) n0 (n + 1) := by
  have h1 : g ∉ ds.take j := by rw [← e]; exact nodup_take hd hj
  unfold Cnt at h ⊢
  rw [if_neg h1] at h
  rw [if_pos ((mem_take_succ hj g).2 (.inr e))]
  omega
theorem Cnt.miss {g : Int} {ds : List Int} {j : Nat} {n0 n : Int} (h : Cnt g ds j n0 n) (hj : j < ds.length) (e : ds.getD j 0 ≠ g) : Cnt g ds (j + 1) n0 n := by
  unfold Cnt at h ⊢
  rw [h]
  have : g ∈ ds.take (j + 1) ↔ g ∈ ds.take j := by rw [mem_take_succ hj g]; exact ⟨fun h => h.resolve_right e, .inl⟩
  simp only [this]
theorem At.first {g last : Int} {l : List Tm} (h : Ag g last l) (hg : Good l) (h0 : 0 ≤ last) : At g last 0 l 0 := by
  obtain ⟨h1, h2, h3, h4⟩ := h
  refine ⟨fun x hx => ?_, by rw [if_neg (by omega)], fun _ => h3, fun e => absurd e (by omega)⟩
  have := hg.2.2 x hx
  have := h2 x hx
  unfold InT at *
  omega
theorem At.seen {g last now : Int} {l : List Tm} {n : Int} (h : At g last now l n) (hg : Good l) {j : Nat} (hj : j < ((dueM now l).map Tm.i).length) (e : ((dueM now l).map Tm.i).getD j 0 = g) : now = last + 1 := by
  obtain ⟨h1, h2, h3, h4⟩ := h
  have hj' : j < (dueM now l).length := by simpa using hj
  have e1 : ((dueM now l)[j]).i = g := by rw [← e]; simp [List.getD, hj']
  have hm : (dueM now l)[j] ∈ dueM now l := List.getElem_mem hj'
  have hml := (due_mem now l _).2 (.inl hm)
  have hlt := due_lt now l _ hm
  have hge := h1 _ hml
  by_cases hn : now ≤ last + 1
  · have := hg.uniq hml (h3 hn) e1
    rw [this] at hlt
    have : last < now := hlt
    omega
  · exact absurd e1 (h4 (by omega) _ hml)
theorem At.next {g last now : Int} {l : List Tm} {n n' : Int} (h : At g last now l n) (hg : Good l) (hc : Cnt g ((dueM now l).map Tm.i) ((dueM now l).map Tm.i).length n n') : At g last (now + 1) (leftM now l) n' := by
  obtain ⟨h1, h2, h3, h4⟩ := h
  unfold Cnt at hc
  rw [List.take_length] at hc
  have hsub : ∀ x ∈ leftM now l, x ∈ l := fun x hx => (due_mem now l x).2 (.inr hx)
  refine ⟨fun x hx => ⟨by have := left_ge now l hg.1 x hx; omega, (h1 x (hsub x hx)).2⟩, ?_, fun hn => ?_, fun hn x hx => ?_⟩
  · by_cases hn : now ≤ last + 1
    · have hin := h3 hn
      rw [if_neg (by omega)] at h2
      by_cases hl : last < now
      · have : g ∈ (dueM now l).map Tm.i := by
          rcases (due_mem now l _).1 hin with hd | hd
          · exact List.mem_map.2 ⟨_, hd, rfl⟩
          · have : now ≤ last := left_ge now l hg.1 _ hd
            omega
        rw [if_pos this] at hc
        rw [if_pos (by omega)]
        omega
      · have : g ∉ (dueM now l).map Tm.i := by
          intro hm
          obtain ⟨x, hx, e⟩ := List.mem_map.1 hm
          have := hg.uniq ((due_mem now l x).2 (.inl hx)) hin e
          have h9 := due_lt now l x hx
          rw [this] at h9
          exact hl h9
        rw [if_neg this] at hc
        rw [if_neg (by omega)]
        omega
    · have : g ∉ (dueM now l).map Tm.i := by
        intro hm
        obtain ⟨x, hx, e⟩ := List.mem_map.1 hm
        exact h4 (by omega) x ((due_mem now l x).2 (.inl hx)) e
      rw [if_neg this] at hc
      rw [if_pos (by omega)] at h2 ⊢
      omega
  · rcases (due_mem now l _).1 (h3 (by omega)) with hd | hd
    · have : last < now := due_lt now l _ hd
      omega
    · exact hd
  · by_cases hn' : now ≤ last + 1
    · intro e
      have := hg.uniq (hsub x hx) (h3 hn') e
      have h9 := left_ge now l hg.1 x hx
      rw [this] at h9
      have : now ≤ last := h9
      omega
    · exact h4 (by omega) x (hsub x hx)
theorem At.last {g last : Int} {l : List Tm} {n : Int} (h : At g last 102 l n) (hl : last < 100) : n = 1 ∧ l = [] := by
  obtain ⟨h1, h2, _⟩ := h
  rw [if_pos (by omega)] at h2
  refine ⟨h2, List.eq_nil_iff_forall_not_mem.2 fun x hx => ?_⟩
  have := h1 x hx
  omega
end Go.Proofs.Ytiohdfplgpmcdaa.tmw
