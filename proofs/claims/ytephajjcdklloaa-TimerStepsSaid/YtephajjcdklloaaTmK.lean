/- TimerAgain's walk. -/
import Derived.Test.YtephajjcdklloaaTmJ
import Derived.Deep.CutRange
import Derived.Deep.CutBlock
namespace Go.Proofs.Ytephajjcdklloaa.tmw
open Go.RowKit mem rowz
set_option linter.unusedVariables false

/-- a row of acts -/
def RowA (w : World) (a : Option Addr) (len : Nat) : Prop := len ≤ maxLen ∧ (len = 0 ∨ ∃ b off, a = some ⟨b, off, none⟩ ∧ ∀ i, i < len → ∃ x y z : Int, (InK x ∧ InK y ∧ InK z) ∧ w.cell? ⟨b, off + i * 3, none⟩ = some (.int .i64 x) ∧ w.cell? ⟨b, off + i * 3 + 1, none⟩ = some (.int .i64 y) ∧ w.cell? ⟨b, off + i * 3 + 2, none⟩ = some (.int .i64 z))
theorem left_ge (now : Int) : ∀ l : List Tm, l.Pairwise ltM → ∀ x ∈ leftM now l, now ≤ x.a
  | [], _ => fun x hx => by cases hx
  | y :: r, h => by
    have h' := List.pairwise_cons.1 h
    intro x hx
    unfold leftM at hx
    by_cases hy : y.a < now
    · rw [List.dropWhile_cons_of_pos (by simpa using hy)] at hx
      exact left_ge now r h'.2 x hx
    · rw [List.dropWhile_cons_of_neg (by simpa using hy)] at hx
      rcases List.mem_cons.1 hx with rfl | hx
      · omega
      · have := h'.1 x hx; unfold ltM at this; omega
theorem due_lt (now : Int) : ∀ l : List Tm, ∀ x ∈ dueM now l, x.a < now
  | [] => fun x hx => by cases hx
  | y :: r => by
    intro x hx
    unfold dueM at hx
    by_cases hy : y.a < now
    · rw [List.takeWhile_cons_of_pos (by simpa using hy)] at hx
      rcases List.mem_cons.1 hx with rfl | hx
      · exact hy
      · exact due_lt now r x hx
    · rw [List.takeWhile_cons_of_neg (by simpa using hy)] at hx
      cases hx
theorem due_mem (now : Int) (l : List Tm) (x : Tm) : x ∈ l ↔ x ∈ dueM now l ∨ x ∈ leftM now l := by
  conv => lhs; rw [← due_left now l]
  exact List.mem_append
theorem Good.uniq {l : List Tm} (h : Good l) {x y : Tm} (hx : x ∈ l) (hy : y ∈ l) (e : x.i = y.i) : x = y := by
  have h2 := h.2.1
  clear h
  induction l with
  | nil => cases hx
  | cons z r ih =>
    have h' : z.i ∉ r.map Tm.i ∧ (r.map Tm.i).Nodup := List.nodup_cons.1 h2
    rcases List.mem_cons.1 hx with rfl | hx'
    · rcases List.mem_cons.1 hy with rfl | hy'
      · rfl
      · exact absurd (List.mem_map.2 ⟨y, hy', e.symm⟩) h'.1
    · rcases List.mem_cons.1 hy with rfl | hy'
      · exact absurd (List.mem_map.2 ⟨x, hx', e⟩) h'.1
      · exact ih hx' hy' h'.2
/-- the others -/
def Oth (i : Nat) (l : List Tm) : Prop := l.length ≤ i ∧ ∀ x ∈ l, x.a < 100
theorem rem_le (g : Int) (l : List Tm) : (remM g l).length ≤ l.length := (remM_sub g l).length_le
theorem Oth.next {i : Nat} {l : List Tm} (h : Oth i l) (hg : Good l) {a g : Int} (ha : a < 100) : (remM g l).length ≤ i ∧ Oth (i + 1) (putM ⟨a, g⟩ l) := by
  obtain ⟨h1, h2⟩ := h
  have := rem_le g l
  refine ⟨by omega, ?_, fun x hx => ?_⟩
  · unfold putM
    rw [insM_len]
    show (remM g l).length + 1 ≤ _
    omega
  · rcases (put_mem _ x l hg.2.1).1 hx with rfl | ⟨hx, _⟩
    · exact ha
    · exact h2 x hx
/-- one time of the number, and few others -/
def Ag (g last : Int) (l : List Tm) : Prop := l.length ≤ 1000 ∧ (∀ x ∈ l, x.a < 100) ∧ (⟨last, g⟩ : Tm) ∈ l ∧ last < 100
theorem Ag.next {g last : Int} {l : List Tm} (h : Ag g last l) (hg : Good l) {a : Int} (ha : a < 100) : (remM g l).length < 1024 ∧ Ag g a (putM ⟨a, g⟩ l) := by
  obtain ⟨h1, h2, h3, h4⟩ := h
  have := remM_len g l ⟨_, h3, rfl⟩
  refine ⟨by omega, ?_, fun x hx => ?_, (put_mem _ _ l hg.2.1).2 (.inl rfl), ha⟩
  · unfold putM
    rw [insM_len]
    show (remM g l).length + 1 ≤ _
    omega
  · rcases (put_mem _ x l hg.2.1).1 hx with rfl | ⟨hx, _⟩
    · exact ha
    · exact h2 x hx
/-- what is left at a time -/
def At (g last : Int) (now : Int) (l : List Tm) (n : Int) : Prop := (∀ x ∈ l, now - 1 ≤ x.a ∧ x.a < 100) ∧ n = (if last + 1 < now then 1 else 0) ∧ (now ≤ last + 1 → (⟨last, g⟩ : Tm) ∈ l) ∧ (last + 1 < now → ∀ x ∈ l, x.i ≠ g)
/-- counted so far -/
def Cnt (g : Int) (ds : List Int) (j : Nat) (n0 n : Int) : Prop := n = n0 + (if g ∈ ds.take j then 1 else 0)
theorem mem_take_succ {ds : List Int} {j : Nat} (hj : j < ds.length) (g : Int) : g ∈ ds.take (j + 1) ↔ g ∈ ds.take j ∨ ds.getD j 0 = g := by
  have : ds.getD j 0 = ds[j] := by simp [List.getD, hj]
  rw [List.take_succ_eq_append_getElem hj, this, List.mem_append, List.mem_singleton]
  exact ⟨fun h => h.imp id Eq.symm, fun h => h.imp id Eq.symm⟩
theorem nodup_take {ds : List Int} (h : ds.Nodup) {j : Nat} (hj : j < ds.length) : ds.getD j 0 ∉ ds.take j := by
  have e : ds.getD j 0 = ds[j] := by simp [List.getD, hj]
  rw [e]
  intro hm
  have h2 : (ds.take j ++ ds[j] :: ds.drop (j + 1)).Nodup := by rw [← List.drop_eq_getElem_cons hj, List.take_append_drop]; exact h
  exact (List.nodup_append.1 h2).2.2 _ hm _ List.mem_cons_self rfl
theorem Cnt.hit {g : Int} {ds : List Int} {j : Nat} {n0 n : Int} (h : Cnt g ds j n0 n) (hd : ds.Nodup) (hj : j < ds.length) (e : ds.getD j 0 = g) : n = n0 ∧ Cnt g ds (j + 1) n0 (n + 1) := by
  have h1 : g ∉ ds.take j := by rw [← e]; exact nodup_take hd hj
  unfold Cnt at h ⊢
  rw [if_neg h1] at h
  rw [if_pos ((mem_take_succ hj g).2 (.inr e))]
  omega
theorem Cnt.miss {g : Int} {ds : List Int} {j : Nat} {n0 n : Int} (h : Cnt g ds j n0 n) (hj : j < ds.length) (e : ds.getD j 0 ≠ g) : Cnt g ds (j + 1) n0 n := by
  unfold Cnt at h ⊢
  rw [h]
  have : g ∈ ds.take (j + 1) ↔ g ∈ ds.take j := by rw [mem_take_succ hj g]; exact ⟨fun h => h.resolve_right e, .inl⟩
  simp only [this]
theorem At.first {g last : Int} {l : List Tm} (h : Ag g last l) (hg : Good l) (h0 : 0 ≤ last) : At g last 0 l 0 := by
  obtain ⟨h1, h2, h3, h4⟩ := h
  refine ⟨fun x hx => ?_, by rw [if_neg (by omega)], fun _ => h3, fun e => absurd e (by omega)⟩
  have := hg.2.2 x hx
  have := h2 x hx
  unfold InT at *
  omega
theorem At.seen {g last now : Int} {l : List Tm} {n : Int} (h : At g last now l n) (hg : Good l) {j : Nat} (hj : j < ((dueM now l).map Tm.i).length) (e : ((dueM now l).map Tm.i).getD j 0 = g) : now = last + 1 := by
  obtain ⟨h1, h2, h3, h4⟩ := h
  have hj' : j < (dueM now l).length := by simpa using hj
  have e1 : ((dueM now l)[j]).i = g := by rw [← e]; simp [List.getD, hj']
  have hm : (dueM now l)[j] ∈ dueM now l := List.getElem_mem hj'
  have hml := (due_mem now l _).2 (.inl hm)
  have hlt := due_lt now l _ hm
  have hge := h1 _ hml
  by_cases hn : now ≤ last + 1
  · have := hg.uniq hml (h3 hn) e1
    rw [this] at hlt
    have : last < now := hlt
    omega
  · exact absurd e1 (h4 (by omega) _ hml)
theorem At.next {g last now : Int} {l : List Tm} {n n' : Int} (h : At g last now l n) (hg : Good l) (hc : Cnt g ((dueM now l).map Tm.i) ((dueM now l).map Tm.i).length n n') : At g last (now + 1) (leftM now l) n' := by
  obtain ⟨h1, h2, h3, h4⟩ := h
  unfold Cnt at hc
  rw [List.take_length] at hc
  have hsub : ∀ x ∈ leftM now l, x ∈ l := fun x hx => (due_mem now l x).2 (.inr hx)
  refine ⟨fun x hx => ⟨by have := left_ge now l hg.1 x hx; omega, (h1 x (hsub x hx)).2⟩, ?_, fun hn => ?_, fun hn x hx => ?_⟩
  · by_cases hn : now ≤ last + 1
    · have hin := h3 hn
      rw [if_neg (by omega)] at h2
      by_cases hl : last < now
      · have : g ∈ (dueM now l).map Tm.i := by
          rcases (due_mem now l _).1 hin with hd | hd
          · exact List.mem_map.2 ⟨_, hd, rfl⟩
          · have : now ≤ last := left_ge now l hg.1 _ hd
            omega
        rw [if_pos this] at hc
        rw [if_pos (by omega)]
        omega
      · have : g ∉ (dueM now l).map Tm.i := by
          intro hm
          obtain ⟨x, hx, e⟩ := List.mem_map.1 hm
          have := hg.uniq ((due_mem now l x).2 (.inl hx)) hin e
          have h9 := due_lt now l x hx
          rw [this] at h9
          exact hl h9
        rw [if_neg this] at hc
        rw [if_neg (by omega)]
        omega
    · have : g ∉ (dueM now l).map Tm.i := by
        intro hm
        obtain ⟨x, hx, e⟩ := List.mem_map.1 hm
        exact h4 (by omega) x ((due_mem now l x).2 (.inl hx)) e
      rw [if_neg this] at hc
      rw [if_pos (by omega)] at h2 ⊢
      omega
  · rcases (due_mem now l _).1 (h3 (by omega)) with hd | hd
    · have : last < now := due_lt now l _ hd
      omega
    · exact hd
  · by_cases hn' : now ≤ last + 1
    · intro e
      have := hg.uniq (hsub x hx) (h3 hn') e
      have h9 := left_ge now l hg.1 x hx
      rw [this] at h9
      have : now ≤ last := h9
      omega
    · exact h4 (by omega) x (hsub x hx)
theorem At.last {g last : Int} {l : List Tm} {n : Int} (h : At g last 102 l n) (hl : last < 100) : n = 1 ∧ l = [] := by
  obtain ⟨h1, h2, _⟩ := h
  rw [if_pos (by omega)] at h2
  refine ⟨h2, List.eq_nil_iff_forall_not_mem.2 fun x hx => ?_⟩
  have := h1 x hx
  omega
set_option maxRecDepth 100000 in
set_option maxHeartbeats 4000000 in
theorem tagain_any (a : Option Addr) (len cap : Nat) (g0 : Int) (at_ : Option Addr) (lt ct : Nat) (ts : List Int) (w : World) (hr : RowA w a len) (h : ReadsI w at_ lt ts) :
    Calls Try.prog 7 #[.slice a len cap, .int .i64 g0, .slice at_ lt ct] w fun e w' => e = .returned (.bool true) ∧ Only (fun _ => False) w w' := by
  have HR := Lib.hid h
  have HA := Lib.hid hr.2
  have hlm := hr.1
  unfold maxLen at hlm
  clear h hr
  have hlt := HR.out.2.1
  unfold maxLen at hlt
  go_enter Try.func7, Try.ntmps7
  go_wp2_with fail
  refine (tnewB w.heap.size w (Nat.le_refl _)).mono ?_
  rintro _ w1 ⟨p, rfl, ht, ho⟩
  have HT1 := Lib.hid ht
  have HO1 := Lib.hid ho
  clear ht ho
  go_wp2_with fail
  refine (timers_any _).mono ?_
  rintro _ w2 ⟨rfl, ho⟩
  have HT2 := Lib.hid (HT1.out.only ho)
  have HO2 := Lib.hid (HO1.out.trans ho)
  clear ho HT1 HO1
  obtain ⟨f0, hf0⟩ : ∃ f0, f0 = wrap64 ((IntKind.u64.wrap g0).tmod 50) := ⟨_, rfl⟩
  have hf1 := tmod_in g0 50 (by decide) (by decide)
  rw [← hf0] at hf1
  have hf2 : wrap64 (1 + f0) = 1 + f0 := by rw [wrap64_eq]; omega
  go_upto_block 0 with fail
  simp only [← hf0, hf2]
  clear hf0 hf2
  obtain ⟨f, hf⟩ : ∃ f, f = 1 + f0 := ⟨_, rfl⟩
  rw [← hf]
  have HF1 : Hid (1 ≤ f ∧ f ≤ 50) := Lib.hid (by omega)
  clear hf1
  generalize IntKind.u64.wrap g0 = x1
  generalize x1.tmod 50 = x2
  clear hf
  go_cut [8] from 23 to 44 (fun v8 wx => ∃ l : List Tm, Hid (TB w.heap.size wx p l) ∧ Hid (Oth 40 l) ∧ Hid (Only (fun _ => False) w wx))
  case first =>
    go_wp2_with fail
    go_loopw [8] (fun iv wr => ∃ (i : Nat) (l : List Tm), i ≤ len ∧ i ≤ 40 ∧ iv = .int .i64 i ∧ Hid (TB w.heap.size wr p l) ∧ Hid (Oth i l) ∧ Hid (Only (fun _ => False) w wr)) (fun iv _ => 40 - (intOf iv).toNat)
    case atStart => exact ⟨0, [], by omega, by omega, rfl, HT2, Lib.hid ⟨Nat.le_refl _, fun x hx => (by cases hx)⟩, HO2⟩
    case round =>
      obtain ⟨i, l, hil, hi4, rfl, HT, HM, HO⟩ := hrel
      have hs := HO.out.size
      by_cases h8 : i < len ∧ i < 40
      · obtain ⟨h8, h9⟩ := h8
        have k1 : (i : Int) < len := by omega
        have k2 : (i : Int) < 40 := by omega
        have k3 : (0 : Int) ≤ i := by omega
        obtain ⟨b, off, rfl, hc⟩ := HA.out.resolve_left (by omega)
        obtain ⟨x, y, z, hin, c0, c1, c2⟩ := hc i h8
        clear hc c0 c1
        replace c2 := HO.out.cell' c2 (fun f => f)
        have HZ := Lib.hid (tmod_in z 100 (by decide) (by decide))
        have HST : Hid (∀ w3, Only (fun _ => False) wr w3 → Calls Try.prog 19 #[.pointer (some ⟨p, 0, none⟩), .int .i64 (100 + i), .int .i64 (wrap64 ((IntKind.u64.wrap z).tmod 100))] w3 fun e w' => e = .returned (.int .i64 0) ∧ (∃ l', TB w.heap.size w' p l' ∧ Oth (i + 1) l') ∧ Only (fun _ => False) w w') := Lib.hid fun w3 hw3 => by
          have hz := HZ.out
          have hs3 := hw3.size
          refine (tsetB w.heap.size p l _ (100 + i) w3 (HT.out.only hw3) (by omega) (by unfold InT; dsimp only; omega)).mono ?_
          rintro e w' ⟨rfl, ht, ho⟩
          obtain ⟨m1, m2⟩ := HM.out.next (g := 100 + i) HT.out.good hz.2
          have hl : (remM (100 + i) l).length < 1024 := by omega
          rw [if_pos hl] at ht ⊢
          exact ⟨rfl, ⟨_, ht, m2⟩, (HO.out.trans hw3).then ho (fun q hq e => by omega)⟩
        go_wp2_with fail
        refine (HST.out wr (Only.refl _ _)).mono ?_
        rintro _ w3 ⟨rfl, ⟨l', ht, hm⟩, ho⟩
        have HT3 := Lib.hid ht
        have HM3 := Lib.hid hm
        have HO3 := Lib.hid ho
        clear ht hm ho HST
        go_wp2_with fail
        go_roundw
        case rel => exact ⟨i + 1, l', by omega, by omega, by go_num, HT3, HM3, HO3⟩
        case measure => simp [intOf]; omega
      · have HM4 : Hid (Oth 40 l) := Lib.hid ⟨Nat.le_trans HM.out.1 hi4, HM.out.2⟩
        by_cases h9 : i < len
        · have k1 : (i : Int) < len := by omega
          have k2 : ¬ (i : Int) < 40 := by omega
          go_wp2_with fail
          go_meet
          exact ⟨l, HT, HM4, HO⟩
        · have k1 : ¬ (i : Int) < len := by omega
          go_wp2_with fail
          go_meet
          exact ⟨l, HT, HM4, HO⟩
  case rest =>
    obtain ⟨l, HT, HM, HO⟩ := hcut
    rename World => W1
    have hs := HO.out.size
    clear HT2 HO2
    go_wp2_with fail
    refine (tsetB w.heap.size p l 5 f W1 HT.out hs (by have := HF1.out; unfold InT; dsimp only; omega)).mono ?_
    rintro _ w3 ⟨rfl, ht, ho⟩
    obtain ⟨m1, m2⟩ := HM.out.next (a := 5) (g := f) HT.out.good (by omega)
    have hl : (remM f l).length < 1024 := by omega
    rw [if_pos hl] at ht ⊢
    have HT3 := Lib.hid ht
    have HG3 : Hid (Ag f 5 (putM ⟨5, f⟩ l)) := Lib.hid ⟨by have := m2.1; omega, m2.2, (put_mem _ _ l HT.out.good.2.1).2 (.inl rfl), by omega⟩
    have HO3 := Lib.hid (HO.out.then ho (fun q hq e => by omega))
    clear ht ho m1 m2 hl hs HT HM HO
    generalize putM ⟨5, f⟩ l = l3 at *
    go_upto_block 2 with fail
    go_cut [9] from 50 to 71 (fun v9 wx => ∃ (l : List Tm) (la : Int), v9 = .int .i64 la ∧ Hid (0 ≤ la) ∧ Hid (TB w.heap.size wx p l) ∧ Hid (Ag f la l) ∧ Hid (Only (fun _ => False) w wx))
    case first =>
      go_wp2_with fail
      go_loopw [9, 10] (fun sv iv wr => ∃ (i : Nat) (l : List Tm) (la : Int), i ≤ lt ∧ i ≤ 20 ∧ iv = .int .i64 i ∧ sv = .int .i64 la ∧ Hid (0 ≤ la) ∧ Hid (TB w.heap.size wr p l) ∧ Hid (Ag f la l) ∧ Hid (Only (fun _ => False) w wr)) (fun _ iv _ => 20 - (intOf iv).toNat)
      case atStart => exact ⟨0, l3, 5, by omega, by omega, rfl, rfl, Lib.hid (by omega), HT3, HG3, HO3⟩
      case round =>
        obtain ⟨i, l, la, hil, hi4, rfl, rfl, HLA, HT, HM, HO⟩ := hrel
        have hs := HO.out.size
        by_cases h8 : i < lt ∧ i < 20
        · obtain ⟨h8, h9⟩ := h8
          have k1 : (i : Int) < lt := by omega
          have k2 : (i : Int) < 20 := by omega
          have k3 : (0 : Int) ≤ i := by omega
          obtain ⟨b, off, rfl, hc⟩ := HR.out.2.2.2.resolve_left (by omega)
          have e1 := HO.out.cell' (hc i h8) (fun f => f)
          clear hc
          generalize ts.getD i 0 = z at *
          have HZ := Lib.hid (tmod_in z 100 (by decide) (by decide))
          have HST := Lib.hid (tsetB w.heap.size p l (wrap64 ((IntKind.u64.wrap z).tmod 100)) f wr HT.out hs (by have := HF1.out; have := HZ.out; unfold InT; dsimp only; omega))
          have HNX := Lib.hid (HM.out.next HT.out.good HZ.out.2)
          go_wp2_with fail
          refine HST.out.mono ?_
          rintro _ w4 ⟨rfl, ht, ho⟩
          have hl := HNX.out.1
          rw [if_pos hl] at ht ⊢
          have HT4 := Lib.hid ht
          have HG4 := Lib.hid HNX.out.2
          have HO4 := Lib.hid (HO.out.then ho (fun q hq e => by omega))
          have HZ0 := Lib.hid HZ.out.1
          clear ht ho hl HNX HST HT HM HO HZ
          go_wp2_with fail
          go_roundw
          case rel => exact ⟨i + 1, _, _, by omega, by omega, by go_num, rfl, HZ0, HT4, HG4, HO4⟩
          case measure => simp [intOf]; omega
        · by_cases h9 : i < lt
          · have k1 : (i : Int) < lt := by omega
            have k2 : ¬ (i : Int) < 20 := by omega
            go_wp2_with fail
            go_meet
            exact ⟨l, la, rfl, HLA, HT, HM, HO⟩
          · have k1 : ¬ (i : Int) < lt := by omega
            go_wp2_with fail
            go_meet
            exact ⟨l, la, rfl, HLA, HT, HM, HO⟩
    case rest =>
      obtain ⟨l, la, rfl, HLA, HT, HM, HO⟩ := hcut
      rename World => W2
      have hla : 0 ≤ la ∧ la < 100 := ⟨HLA.out, HM.out.2.2.2⟩
      have hwl : wrap64 (la + 1) = la + 1 := by rw [wrap64_eq]; omega
      have HA0 := Lib.hid (At.first HM.out HT.out.good HLA.out)
      go_wp2_with fail
      go_loopw [11, 12] (fun nv iv wr => ∃ (now : Nat) (l : List Tm) (n : Int), now ≤ 102 ∧ iv = .int .i64 now ∧ nv = .int .i64 n ∧ Hid (0 ≤ n ∧ n ≤ 1) ∧ Hid (TB w.heap.size wr p l) ∧ Hid (At f la now l n) ∧ Hid (Only (fun _ => False) w wr)) (fun _ iv _ => 102 - (intOf iv).toNat)
      case atStart => exact ⟨0, l, 0, by omega, rfl, rfl, Lib.hid (by omega), HT, HA0, HO⟩
      case round =>
        clear HA0 HT HM HO
        obtain ⟨now, l, n, hnw, rfl, rfl, HN, HT, HM, HO⟩ := hrel
        by_cases h8 : now < 102
        · have k1 : (now : Int) ≤ 101 := by omega
          go_wp2_with fail
          refine (tdueB w.heap.size p _ now wr HT.out).mono ?_
          rintro _ w5 ⟨a5, c5, rfl, hr, ha5, ht, ho⟩
          have HT5 := Lib.hid ht
          have HR5 := Lib.hid hr
          have HO5 := Lib.hid (HO.out.then ho (fun q hq e => by omega))
          have HSE := Lib.hid (fun j hj e => HM.out.seen HT.out.good (j := j) hj e)
          have HNX := Lib.hid (fun n' hc => HM.out.next HT.out.good (n' := n') hc)
          have HND := Lib.hid (HT.out.good.due now).2.1
          clear ht hr ho ha5 HT HM HO
          generalize (dueM now l).map Tm.i = ds at *
          generalize hm : ds.length = m at *
          have HMM := Lib.hid hm
          have hm64 := HR5.out.2.1
          unfold maxLen at hm64
          clear hm
          go_wp2_with fail
          go_loopw [11, 14] (fun nv jv wr => ∃ (j : Nat) (n' : Int), j ≤ m ∧ jv = .int .i64 j ∧ nv = .int .i64 n' ∧ Hid (n ≤ n' ∧ n' ≤ n + 1) ∧ Hid (Cnt f ds j n n') ∧ Hid (Only (fun _ => False) w5 wr)) (fun _ jv _ => m - (intOf jv).toNat)
          case atStart => exact ⟨0, n, by omega, rfl, rfl, Lib.hid (by omega), Lib.hid (by unfold Cnt; simp), Lib.hid (Only.refl _ _)⟩
          case round =>
            obtain ⟨j, n', hj, rfl, rfl, HN', HC, HO6⟩ := hrel
            by_cases h9 : j < m
            · have q1 : (j : Int) < m := by omega
              have q2 : (0 : Int) ≤ j := by omega
              obtain ⟨b, off, rfl, hc⟩ := HR5.out.2.2.2.resolve_left (by omega)
              have e1 := HO6.out.cell' (hc j h9) (fun f => f)
              clear hc
              have HJL : Hid (j < ds.length) := Lib.hid (by rw [HMM.out]; exact h9)
              by_cases hd : ds.getD j 0 = f
              · have hnow := HSE.out j h9 hd
                obtain ⟨i1, i2⟩ := HC.out.hit HND.out HJL.out hd
                have HC2 := Lib.hid i2
                have hn1 := HN.out
                clear i2
                subst i1
                rw [hd] at e1
                have hw1 : wrap64 (n' + 1) = n' + 1 := by rw [wrap64_eq]; omega
                have hnl : ((now : Int) != la + 1) = false := by simp [hnow]
                clear hnow
                go_wp2_with fail
                go_roundw
                case rel => exact ⟨j + 1, n' + 1, by omega, by go_num, rfl, Lib.hid (by omega), HC2, HO6⟩
                case measure => simp [intOf]; omega
              · have HC2 := Lib.hid (HC.out.miss HJL.out hd)
                generalize ds.getD j 0 = d at *
                have hdf : (d == f) = false := by simpa using hd
                go_wp2_with fail
                go_roundw
                case rel => exact ⟨j + 1, n', by omega, by go_num, rfl, HN', HC2, HO6⟩
                case measure => simp [intOf]; omega
            · obtain rfl : j = m := by omega
              have HAX := Lib.hid (HNX.out n' HC.out)
              have HTX := Lib.hid (HT5.out.only HO6.out)
              have HOX := Lib.hid (HO5.out.trans HO6.out)
              have HNN : Hid (0 ≤ n' ∧ n' ≤ 1) := Lib.hid (by have := HAX.out.2.1; split at this <;> omega)
              clear HNX HSE HT5 HO5 HO6
              go_wp2_with fail
              go_roundw
              case rel => exact ⟨now + 1, _, n', by omega, by go_num, rfl, HNN, HTX, HAX, HOX⟩
              case measure => simp [intOf]; omega
        · obtain rfl : now = 102 := by omega
          obtain ⟨e1, e2⟩ := HM.out.last hla.2
          subst e1 e2
          have HTL := Lib.hid (tlenB _ _ _ _ HT.out)
          go_wp2_with fail
          refine HTL.out.mono ?_
          rintro _ w6 ⟨rfl, ho⟩
          have HO6 := Lib.hid (HO.out.trans ho)
          clear ho
          go_wp2_with fail
          go_ret
          exact ⟨rfl, HO6.out⟩
theorem tagain_walk (a : Option Addr) (len cap : Nat) (g0 : Int) (at_ : Option Addr) (lt ct : Nat) (w : World) (hr : RowA w a len) (h : ∃ l, IntsR w at_ lt ct l) :
    Calls Try.prog 7 #[.slice a len cap, .int .i64 g0, .slice at_ lt ct] w fun e w' => e = .returned (.bool true) ∧ Below w.heap.size w w' :=
  h.elim fun l h => (tagain_any a len cap g0 at_ lt ct l w hr h.1).mono fun _ _ ⟨h1, h2⟩ => ⟨h1, h2.none⟩
end Go.Proofs.Ytephajjcdklloaa.tmw
