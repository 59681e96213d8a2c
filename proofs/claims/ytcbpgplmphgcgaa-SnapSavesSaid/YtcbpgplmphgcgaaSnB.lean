/- Bytes filled up to whole sectors; a slot's first sector: the program's whole and head. -/
import Derived.Test.YtcbpgplmphgcgaaSnA
import Derived.Test.YtcbpgplmphgcgaaCrcSum
import Derived.Laws.MakeOwn
import Derived.Laws.OwnMore
import Derived.Laws.CopyRow
import Derived.Deep.WholeRow
namespace Go.Proofs.Ytcbpgplmphgcgaa.snw
open Go.RowKit mem snm crcm
set_option linter.unusedVariables false

theorem run_copy_rowz {P : Program} (w : World) (dT sT ty elem : TypeId) (i : TypeInfo) (z : Nat) (g o dLen dCap : Nat) (a : Addr) (sLen sCap : Nat) (cur : Array Value) (t : TypeId) (cs : List Value)
    (hu : P.underlying dT = some (.slice elem)) (hq : P.info? elem = some i) (hi : i.size = z)
    (hg : w.heap[g]? = some (.cells cur t (0, 0))) (hn : cs.length = Nat.min sLen dLen * z)
    (hsrc : ∀ j v, cs[j]? = some v → w.cell? (a.add j) = some v) (hfit : o + cs.length ≤ cur.size) (h1 : ∀ v ∈ cs, v.oneCell' = true) :
    (Builtin.copy_ #[dT, sT] ty #[.slice (some ⟨g, o, none⟩) dLen dCap, .slice (some a) sLen sCap]).run P w =
      .ok (goInt (Nat.min sLen dLen)) (w.setRow g (cur.toList.take o ++ cs ++ cur.toList.drop (o + cs.length)).toArray) := by
  have hf := run_firstCells_some (P := P) w z (Nat.min sLen dLen) a sLen sCap cs hn hsrc
  have hst := run_storeCells_at P g o t cs 0 cur w hg (by simpa using hfit) h1
  simp only [Nat.add_zero] at hst
  simp [Builtin.copy_, run_underlying hu, Builtin.lenOf, sizeOf, typeInfo, hq, hi, hf, hst]

theorem wp_copy_run {P : Program} (w : World) {o : Oper} {a : Act} {K : Act → World → Prop} {Q : Exit → Act → World → Prop} (d s : Operand) (t t' : TypeId)
    (ho : o.op = .call { callee := .builtin .copy, args := #[d, s], argTypes := #[t, t'] }) (v u : Value) (hd : a.eval d = v) (hs : a.eval s = u) {v' : Value} {w' : World}
    (hr : (Builtin.copy_ #[t, t'] o.type #[v, u]).run P w = .ok v' w') (h : K (a.put o.dst v') w') : o.wp P a w K Q := by
  unfold Oper.wp execOp
  simp only [ho, resolve, invoke, builtin, Sem.run_bind, Sem.run_pure, Result.andThen_ok, List.map_toArray, List.map_cons, List.map_nil, hd, hs, hr]
  exact h
theorem wpList_copy_run {P : Program} (w : World) {ops : Array Oper} {rest : List Oper} {o : Oper} {a : Act} {Q : Exit → Act → World → Prop} (hgd : o.guard = none) (d s : Operand) (t t' : TypeId)
    (ho : o.op = .call { callee := .builtin .copy, args := #[d, s], argTypes := #[t, t'] }) (v u : Value) (hd : a.eval d = v) (hs : a.eval s = u) {v' : Value} {w' : World}
    (hr : (Builtin.copy_ #[t, t'] o.type #[v, u]).run P w = .ok v' w') (h : wpList P ops Q rest (a.put o.dst v') w') : wpList P ops Q (o :: rest) a w :=
  wpList_plain hgd fun _ hK => wp_copy_run w d s t t' ho v u hd hs hr (hK _ _ h)
theorem make_b (n : Nat) (hn : n ≤ 140737488355328) (w : World) : (Instr.makeSlice 47 (.int .i64 (n : Int)) (.int .i64 (n : Int))).run Try.prog w = .ok (.slice (some ⟨w.heap.size, 0, none⟩) n n) (w.alloc (.cells (bv (List.replicate n 0)).toArray 5)) := by
  obtain ⟨i, hi, hz0, hz1, hz2⟩ := info_parts info_u8
  have hr := run_make (P := Try.prog) w 47 5 i (.int .u8 0) Try.underlying47 hi hz0 .i64 .i64 n n (by omega) (Int.le_refl _) (by rw [hz2]; omega) (by omega)
  simp only [Int.toNat_natCast, hz1, Nat.mul_one] at hr
  have e : madeCells (Value.int .u8 0).cells n = (bv (List.replicate n 0)).toArray := by
    apply Array.toList_inj.1
    show (madeCells #[Value.int .u8 0] n).toList = _
    rw [toList_madeCells_one]
    simp [bv]
  rw [e] at hr
  exact hr
theorem own_new (w : World) (l : List Nat) (hb : ∀ c ∈ l, c < 256) (hm : l.length ≤ 140737488355328) : OwnB (w.alloc (.cells (bv l).toArray 5)) (.slice (some ⟨w.heap.size, 0, none⟩) l.length l.length) l := by
  refine ⟨⟨by rw [bv_length, Nat.mul_one], .inr ⟨w.heap.size, l.length, (bv l).toArray, rfl, Nat.zero_le _, by rw [heap_alloc, if_pos rfl], Nat.le_refl _, by unfold maxLen; omega, by rw [List.size_toArray, bv_length, Nat.mul_one], ?_⟩⟩, hb, by unfold maxLen; omega⟩
  rw [Nat.mul_one]
  show (bv l).take l.length = bv l
  rw [List.take_of_length_le (by rw [bv_length]; exact Nat.le_refl _)]
theorem copy_b (w : World) (N len cap : Nat) (a : Option Addr) (l : List Nat) (h : Reads w a len l) (hn : len ≤ N) (ty : TypeId) :
    (Builtin.copy_ #[47, 47] ty #[.slice (some ⟨w.heap.size, 0, none⟩) N N, .slice a len cap]).run Try.prog (w.alloc (.cells (bv (List.replicate N 0)).toArray 5)) = .ok (goInt len) (w.alloc (.cells (bv (l ++ List.replicate (N - len) 0)).toArray 5)) := by
  obtain ⟨i0, hi, hz0, hz1, hz2⟩ := info_parts info_u8
  have hl := h.1
  have hmin : Nat.min len N = len := Nat.min_eq_left hn
  rcases a with _ | x
  · have h0 : len = 0 := by
      rcases h.2.2.2 with h0 | ⟨b, off, ha, _⟩
      · exact h0
      · cases ha
    subst h0
    obtain rfl : l = [] := List.eq_nil_of_length_eq_zero hl
    simp [Builtin.copy_, run_underlying Try.underlying47, Builtin.lenOf, sizeOf, typeInfo, hi, Builtin.firstCells, storeCells]
  · have hr := run_copy_rowz (P := Try.prog) (w.alloc (.cells (bv (List.replicate N 0)).toArray 5)) 47 47 ty 5 i0 1 w.heap.size 0 N N x len cap (bv (List.replicate N 0)).toArray 5 (bv l) Try.underlying47 hi hz1 (by rw [heap_alloc, if_pos rfl]) (by rw [hmin, bv_length, hl, Nat.mul_one]) (news_of_reads (h.only (S := fun _ => False) ((Only.refl _ w).alloc _) (fun _ _ f => f))) (by rw [List.size_toArray, bv_length, bv_length, List.length_replicate]; omega) (bv_one l)
    rw [hmin, World.setRow_alloc_new] at hr
    have e : (((bv (List.replicate N 0)).toArray.toList.take 0) ++ bv l ++ (bv (List.replicate N 0)).toArray.toList.drop (0 + (bv l).length)).toArray = (bv (l ++ List.replicate (N - len) 0)).toArray := by
      show ((bv (List.replicate N 0)).take 0 ++ bv l ++ (bv (List.replicate N 0)).drop (0 + (bv l).length)).toArray = _
      rw [List.take_zero, List.nil_append, Nat.zero_add, bv_append, bv_length, hl]
      unfold bv
      rw [← List.map_drop, List.drop_replicate]
    rw [e] at hr
    exact hr
/-- fresh bytes -/
def Fr (w : World) (l : List Nat) (e : Ending) (w' : World) : Prop := ∃ g c, e = .returned (.slice (some ⟨g, 0, none⟩) l.length c) ∧ OwnB w' (.slice (some ⟨g, 0, none⟩) l.length c) l ∧ l.length ≤ c ∧ c ≤ maxLen ∧ w.heap.size ≤ g ∧ Only (fun _ => False) w w'
set_option maxRecDepth 100000 in
set_option maxHeartbeats 2000000 in
theorem whole_any (a : Option Addr) (len cap : Nat) (l : List Nat) (w : World) (h : Reads w a len l) (hl : len ≤ 1000000) : Calls Try.prog 64 #[.slice a len cap] w (Fr w (wl l)) := by
  obtain ⟨m, hm⟩ : ∃ m, nsec len = m := ⟨_, rfl⟩
  have hm2 : ((len : Int) + 64 - 1) / 64 = (m : Int) := by rw [← hm]; unfold nsec; omega
  have hN : len ≤ m * 64 ∧ m * 64 ≤ 1000064 := by rw [← hm]; unfold nsec; omega
  have hle := h.1
  have HMK := Lib.hid (make_b (m * 64) (by omega) w)
  have HCP := Lib.hid (fun ty => copy_b w (m * 64) len cap a l h hN.1 ty)
  have hwl : wl l = l ++ List.replicate (m * 64 - len) 0 := by unfold wl; rw [hle, hm]
  have hwn : (wl l).length = m * 64 := by rw [wl_len, hle, hm]
  have HFIN : Hid (Fr w (wl l) (.returned (.slice (some ⟨w.heap.size, 0, none⟩) (m * 64) (m * 64))) (w.alloc (.cells (bv (l ++ List.replicate (m * 64 - len) 0)).toArray 5))) := Lib.hid (by
    have hown := own_new w (wl l) (wl_lt h.2.2.1) (by omega)
    rw [hwn, hwl] at hown
    rw [hwl] at hwn ⊢
    exact ⟨w.heap.size, m * 64, by rw [hwn], by rw [hwn]; exact hown, by omega, by unfold maxLen; omega, Nat.le_refl _, (Only.refl _ w).alloc _⟩)
  clear h hwl hwn hle
  have hmk : (Instr.makeSlice 47 (.int .i64 ((m : Int) * 64)) (.int .i64 ((m : Int) * 64))).run Try.prog w = .ok (.slice (some ⟨w.heap.size, 0, none⟩) (m * 64) (m * 64)) (w.alloc (.cells (bv (List.replicate (m * 64) 0)).toArray 5)) := by
    have := HMK.out
    rw [show ((m * 64 : Nat) : Int) = (m : Int) * 64 by omega] at this
    exact this
  go_enter Try.func64, Try.ntmps64
  have hcp := HCP.out
  go_wp2_with fail
  go_ret
  exact HFIN.out
end Go.Proofs.Ytcbpgplmphgcgaa.snw
