/- Numbers as bytes, the highest first: the program's Append and Read. -/
import Derived.Test.YtcbpgplmphgcgaaSnM
import Derived.Test.YtcbpgplmphgcgaaMem
import Derived.Lib.Hide
import Derived.Laws.BitsAllLaws
namespace Go.Proofs.Ytcbpgplmphgcgaa.snw
open Go.RowKit mem snm
set_option linter.unusedVariables false

theorem one_cell (w : World) (c : Nat) (t : TypeId) : ∀ j u, (bv [c])[j]? = some u → (w.alloc (.cells #[.int .u8 ((c : Nat) : Int)] t)).cell? ((Addr.mk w.heap.size 0 none).add j) = some u := by
  intro j u hu
  match j, hu with
  | 0, hu => simp [bv] at hu; subst hu; rw [add_none]; simp
  | j + 1, hu => simp [bv] at hu
/-- what an append to a row of bytes gives, behind the literal's own block -/
theorem app_facts {w w2 : World} {v v2 : Value} {l r : List Nat} {o : Obj} (h : OwnB w v l) (hown : w2.ownsRow 0 5 1 v2 (l.length + r.length) (bv l ++ bv r)) (hgrow : (w.alloc o).grownBy w2 v.ownBlock)
    (hk : ∀ k, v2.ownBlock = some k → v.ownBlock = some k ∨ w.heap.size + 1 ≤ k) (hr : ∀ c ∈ r, c < 256) (hm : (l ++ r).length ≤ maxLen) :
    OwnB w2 v2 (l ++ r) ∧ Only (fun k => v.ownBlock = some k) w w2 ∧ (∀ k, v2.ownBlock = some k → v.ownBlock = some k ∨ w.heap.size ≤ k) := by
  refine ⟨⟨by rw [List.length_append, bv_append]; exact hown, ?_, hm⟩, ?_, ?_⟩
  · intro c hc
    rcases List.mem_append.1 hc with h1 | h1
    · exact h.2.1 c h1
    · exact hr c h1
  · exact ((Only.refl (fun k => v.ownBlock = some k) w).alloc o).then (Only.of_grown hgrow) (fun i _ hi => hi)
  · intro k h1
    rcases hk k h1 with h2 | h2
    · exact .inl h2
    · exact .inr (by omega)
theorem OwnB.lt {w : World} {v : Value} {l : List Nat} (h : OwnB w v l) : ∀ k, v.ownBlock = some k → k < w.heap.size := by
  intro k hk
  rcases h.forms with ⟨e, _⟩ | ⟨g, c, e, hg, _⟩
  · rw [e] at hk; cases hk
  · rw [e] at hk
    have : g = k := by simpa [Value.ownBlock] using hk
    omega
/-- bytes behind what was there -/
def Ap (v : Value) (w : World) (l : List Nat) (e : Ending) (w' : World) : Prop := ∃ v', e = .returned v' ∧ OwnB w' v' l ∧ Only (fun q => v.ownBlock = some q) w w' ∧ (∀ q, v'.ownBlock = some q → v.ownBlock = some q ∨ w.heap.size ≤ q)
set_option maxRecDepth 100000 in
set_option maxHeartbeats 2000000 in
theorem bapp_any (v : Value) (l : List Nat) (n k : Nat) (w : World) (h : OwnB w v l) (hn : n < 18446744073709551616) (hk : k ≤ 8) (hl : l.length ≤ 1000000) : Calls Try.prog 71 #[v, .int .u64 (n : Int), .int .i64 (k : Int)] w (Ap v w (l ++ be k n)) := by
  obtain ⟨i0, hi, hz0, hz1, hz2⟩ := info_parts info_u8
  have HH := Lib.hid h
  have HBL := Lib.hid (be_len n)
  have HBT := Lib.hid (be_take n k)
  have HBF : Hid ((be k n).take k = be k n) := Lib.hid (List.take_of_length_le (by rw [be_len]; exact Nat.le_refl _))
  clear h
  go_enter Try.func71, Try.ntmps71
  go_wp2_with fail
  go_loopw [0, 7] (fun x iv wr => ∃ (j : Nat) (v1 : Value), j ≤ k ∧ iv = .int .i64 ((k : Int) - 1 - (j : Int)) ∧ v1 = x ∧ Hid (OwnB wr v1 (l ++ (be k n).take j)) ∧ Hid (Only (fun q => v.ownBlock = some q) w wr) ∧ Hid (∀ q, v1.ownBlock = some q → v.ownBlock = some q ∨ w.heap.size ≤ q)) (fun _ iv _ => (intOf iv + 1).toNat)
  case atStart => exact ⟨0, v, by omega, by go_num, rfl, by simpa using HH, Lib.hid (Only.refl _ _), Lib.hid (fun q e => .inl e)⟩
  case round =>
    obtain ⟨j, v1, hj, rfl, rfl, HW, HO, HK⟩ := hrel
    rename World => wr
    by_cases h8 : j < k
    · have h0 : (0 : Int) ≤ (k : Int) - 1 - (j : Int) := by omega
      have HS := HBT.out j h8
      obtain ⟨i, hii⟩ : ∃ i : Nat, k - 1 - j = i := ⟨_, rfl⟩
      have hic : (k : Int) - 1 - (j : Int) = (i : Int) := by omega
      rw [hii] at HS
      rw [hic]
      have hi8 : i ≤ 7 := by omega
      have hbyte : (n : Int) / 2 ^ (8 * i) % 256 = ((n / 256 ^ i % 256 : Nat) : Int) := by
        have e1 : (2 : Nat) ^ (8 * i) = 256 ^ i := by rw [Nat.pow_mul]
        have e2 : (2 : Int) ^ (8 * i) = ((2 ^ (8 * i) : Nat) : Int) := by norm_cast
        rw [e2, e1]
        norm_cast
      obtain ⟨c, hc⟩ : ∃ c, n / 256 ^ i % 256 = c := ⟨_, rfl⟩
      rw [hc] at hbyte HS
      have hc256 : c < 256 := by rw [← hc]; exact Nat.mod_lt _ (by omega)
      have hpl : (l ++ (be k n).take j).length ≤ 1000008 := by
        rw [List.length_append, List.length_take, HBL.out]
        omega
      obtain ⟨pre, hpre⟩ : ∃ x, l ++ (be k n).take j = x := ⟨_, rfl⟩
      have HPN : Hid (pre ++ [c] = l ++ (be k n).take (j + 1)) := Lib.hid (by rw [HS, ← List.append_assoc, hpre])
      rw [hpre] at HW hpl
      clear hc hpre HS hii
      go_wp2_with (first | (at_builtin; refine append_mine rfl _ _ 47 rfl 5 i0 (.int .u8 0) 1 1 Try.underlying47 hi hz0 hz1 hz2 rfl (by decide) v1 pre.length (bv pre) rfl (HW.out.only ((Only.refl (fun _ => False) wr).alloc _) (fun _ _ f => f)).1 ⟨wr.heap.size, 0, none⟩ 1 1 (bv [c]) rfl rfl ?c1 ?c2 ?c3 ?c4 ?_) | fail)
      case c1 => exact one_cell _ _ _
      case c2 => exact bv_one _
      case c3 => unfold maxLen; omega
      case c4 => omega
      intro v2 w2 hown hgrow hkk
      obtain ⟨f1, f2, f3⟩ := app_facts HW.out (r := [c]) hown hgrow hkk (by intro d hd; simp at hd; omega) (by unfold maxLen; rw [List.length_append]; simp; omega)
      rw [HPN.out] at f1
      have HW2 := Lib.hid f1
      have HO2 : Hid (Only (fun q => v.ownBlock = some q) w w2) := Lib.hid (HO.out.then f2 (fun q hq e => (HK.out q e).elim (fun e => e) (fun e => by omega)))
      have HK2 : Hid (∀ q, v2.ownBlock = some q → v.ownBlock = some q ∨ w.heap.size ≤ q) := Lib.hid (fun q e => (f3 q e).elim (HK.out q) (fun e => .inr (Nat.le_trans HO.out.size e)))
      clear hown hgrow hkk f1 f2 f3 HW HO HK hbyte hpl HPN
      go_wp2_with fail
      go_roundw
      case rel => exact ⟨j + 1, _, by omega, by go_num, rfl, HW2, HO2, HK2⟩
      case measure => (simp [intOf]; try omega)
    · obtain rfl : j = k := by omega
      have h0 : ¬ (0 : Int) ≤ (j : Int) - 1 - (j : Int) := by omega
      rw [HBF.out] at HW
      have HFIN : Hid (Ap v w (l ++ be j n) (.returned v1) wr) := Lib.hid ⟨v1, rfl, HW.out, HO.out, HK.out⟩
      clear HW HO HK
      go_wp2_with fail
      go_ret
      exact HFIN.out
theorem rb_step (m c : Nat) (hm : m < 18446744073709551616) (hc : c < 256) : bits .or .u64 (IntKind.u64.wrap ((m : Int) * 256)) (c : Int) = (((m * 256 + c) % 18446744073709551616 : Nat) : Int) := by
  have e : IntKind.u64.wrap ((m : Int) * 256) = ((m * 256 % 18446744073709551616 : Nat) : Int) := by rw [IntKind.wrap_u64]; omega
  rw [e, u64_or_nat _ _ (Nat.mod_lt _ (by omega)) (by omega)]
  congr 1
  obtain ⟨A, hA⟩ : ∃ A, m * 256 % 18446744073709551616 = A := ⟨_, rfl⟩
  have h1 : A = (A / 256) <<< 8 := by rw [Nat.shiftLeft_eq]; omega
  have h2 := Nat.shiftLeft_add_eq_or_of_lt (b := c) (i := 8) (by omega) (A / 256)
  rw [← h1] at h2
  rw [hA, ← h2]
  omega
set_option maxRecDepth 100000 in
set_option maxHeartbeats 2000000 in
theorem bread_any (a : Option Addr) (len cap : Nat) (l : List Nat) (w : World) (h : Reads w a len l) (hl : len ≤ 1000000) : Calls Try.prog 84 #[.slice a len cap] w fun e w' => e = .returned (.int .u64 ((rb l : Nat) : Int)) ∧ w = w' := by
  obtain ⟨h1, h2, h3, h4⟩ := h
  have HL := Lib.hid h1
  have HB := Lib.hid h3
  have HF : Hid (rb (l.take len) = rb l) := Lib.hid (by rw [List.take_of_length_le (by omega)])
  clear h1
  go_enter Try.func84, Try.ntmps84
  go_wp2_with fail
  go_loopw [3, 8] (fun x iv wr => ∃ (k : Nat), k ≤ len ∧ iv = .int .i64 (k : Int) ∧ x = .int .u64 ((rb (l.take k) : Nat) : Int) ∧ w = wr) (fun _ iv _ => len - (intOf iv).toNat)
  case atStart => exact ⟨0, by omega, rfl, rfl, rfl⟩
  case round =>
    obtain ⟨k, hk, rfl, rfl, rfl⟩ := hrel
    by_cases h8 : k < len
    · obtain ⟨b, off, rfl, hcell⟩ := h4.resolve_left (by omega)
      have c0 := hcell k h8
      have hin : (k : Int) < len := by omega
      have hi0 : (0 : Int) ≤ k := by omega
      have hi64 : (k : Int) ≤ 1000000 := by omega
      have HS : Hid (rb (l.take (k + 1)) = (rb (l.take k) * 256 + l.getD k 0) % 18446744073709551616) := Lib.hid (rb_take l k (by rw [HL.out]; exact h8))
      have hm := rb_lt (l.take k)
      have hc := getD_lt l HB.out k
      generalize l.getD k 0 = c at *
      generalize rb (l.take k) = m at *
      clear hcell h4
      go_wp2_with fail
      exact ⟨⟨k + 1, by omega, by go_num, by rw [rb_step m c hm hc, HS.out], trivial⟩, by simp [intOf]; omega⟩
    · obtain rfl : k = len := by omega
      have hnl : ¬ (k : Int) < k := by omega
      rw [HF.out]
      go_wp2_with fail
      go_ret
      exact ⟨rfl, rfl⟩
end Go.Proofs.Ytcbpgplmphgcgaa.snw
