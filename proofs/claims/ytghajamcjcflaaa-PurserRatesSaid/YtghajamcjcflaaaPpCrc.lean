/- A text with one byte changed has another sum; the known text has its sum. -/
import Derived.Test.YtghajamcjcflaaaCrcSum
import Derived.Test.YtghajamcjcflaaaCrcLin
import Derived.Test.YtghajamcjcflaaaMem
import Derived.Lib.SmallJoins
namespace Go.Proofs.Ytghajamcjcflaaa.ppc
open Go.RowKit mem
open crcm
set_option linter.unusedVariables false

theorem split1 (l : List Nat) (K : Nat) (h : K < l.length) : ∃ p a q, l = p ++ a :: q ∧ p.length = K ∧ a = l.getD K 0 := by
  refine ⟨l.take K, l[K], l.drop (K + 1), ?_, by simp; omega, by simp [List.getD, h]⟩
  rw [← List.drop_eq_getElem_cons h, List.take_append_drop]

theorem one_unlike {l : List Nat} {K d : Nat} (hl : ∀ c ∈ l, c < 256) (hK : K < l.length) (hd : d < 256) (h0 : d ≠ 0) : more 0 l ≠ more 0 (l.set K (l.getD K 0 ^^^ d)) := by
  intro h
  obtain ⟨p, a, q, rfl, rfl, ha⟩ := split1 l K hK
  rw [← ha, set_at p a _ q _ rfl] at h
  have mem : ∀ c, c = a ∨ c ∈ q ∨ c ∈ p → c < 256 := by
    intro c hc
    apply hl
    simp only [List.mem_append, List.mem_cons]
    rcases hc with h | h | h <;> simp [h]
  have ma := mem a (by simp)
  have l8 : ∀ {x y : Nat}, x < 256 → y < 256 → x ^^^ y < 256 := fun hx hy => Nat.xor_lt_two_pow (n := 8) hx hy
  have hrun : run (turn 0) (p ++ a :: q) = run (turn 0) (p ++ (a ^^^ d) :: q) := by
    have h2 : turn (more 0 (p ++ a :: q)) = turn (more 0 (p ++ (a ^^^ d) :: q)) := by rw [h]
    unfold more at h2
    rw [turn_turn, turn_turn] at h2
    exact h2
  have ht : turn 0 < 4294967296 := turn_lt (by omega)
  generalize turn 0 = t at hrun ht
  rw [run_append, run_append] at hrun
  have hs : run t p < 4294967296 := run_lt ht (fun c hc => mem c (by simp [hc]))
  generalize run t p = s at hrun hs
  have e : ∀ b : Nat, run s (b :: q) = run (byte1 s b) q := fun b => rfl
  rw [e, e] at hrun
  have h4 := run_inj (byte1_lt hs ma) (byte1_lt hs (l8 ma hd)) (fun c hc => mem c (by simp [hc])) hrun
  have h5 := byte1_diff s s a (a ^^^ d)
  rw [h4, Nat.xor_self, Nat.xor_self, Nat.zero_xor, ← Nat.xor_assoc, Nat.xor_self, Nat.zero_xor] at h5
  exact h0 (bitk_zero (by omega) 8 h5.symm)

theorem reads_crc {w : World} {a : Option Addr} {n : Nat} {l : List Nat} (h : Reads w a n l) : crcw.Reads w a n l := h

/-- a sum's one part -/
theorem parts_one {w : World} {a : Option Addr} {n cap : Nat} {l : List Nat} (h : Reads w a n l) (t : TypeId) {g : Nat} (hg : g = w.heap.size) : crcw.Parts (w.alloc (.cells #[.slice a n cap] t)) (some ⟨g, 0, none⟩) 1 [l] := by
  subst hg
  refine ⟨rfl, by unfold maxLen; omega, .inr ⟨_, _, rfl, fun i hi => ?_⟩⟩
  obtain rfl : i = 0 := by omega
  refine ⟨a, n, cap, ?_, ?_⟩
  · rw [Go.Joins.cell_of_block (cs := #[.slice a n cap]) (t := t) (fr := (0, 0)) (by rw [heap_alloc, if_pos rfl])]; rfl
  · exact reads_crc (h.only (S := fun _ => False) ((Only.refl _ w).alloc _) (fun _ _ f => f))

theorem nine_reads (w : World) (t : TypeId) (fr : Nat × Nat) : Reads (w.alloc (.cells #[.int .u8 49, .int .u8 50, .int .u8 51, .int .u8 52, .int .u8 53, .int .u8 54, .int .u8 55, .int .u8 56, .int .u8 57] t fr)) (some ⟨w.heap.size, 0, none⟩) 9 [49, 50, 51, 52, 53, 54, 55, 56, 57] := by
  refine ⟨rfl, by unfold maxLen; omega, by decide, .inr ⟨_, _, rfl, fun i hi => ?_⟩⟩
  rw [Nat.zero_add, Go.Joins.cell_of_block (cs := #[.int .u8 49, .int .u8 50, .int .u8 51, .int .u8 52, .int .u8 53, .int .u8 54, .int .u8 55, .int .u8 56, .int .u8 57]) (t := t) (fr := fr) (by rw [heap_alloc, if_pos rfl])]
  match i, hi with
  | 0, _ => rfl
  | 1, _ => rfl
  | 2, _ => rfl
  | 3, _ => rfl
  | 4, _ => rfl
  | 5, _ => rfl
  | 6, _ => rfl
  | 7, _ => rfl
  | 8, _ => rfl

theorem sum_one (l : List Nat) : crcw.sumP [l] = more 0 l := rfl

theorem known_one : crcw.sumP [[49, 50, 51, 52, 53, 54, 55, 56, 57]] = 3421780262 := by decide +kernel

set_option maxRecDepth 100000 in
theorem stands_any (w : World) :
    Calls Try.prog 23 #[] w fun e w' => e = .returned (.bool true) ∧ Only (fun _ => False) w w' := by
  have kc := fun (w : World) (C : Array Value) (n c g : Nat) (hg : g = w.heap.size) => Go.Joins.run_convert_bytes_const_at (P := Try.prog) w 98 5 C n c g hg Try.underlying98 Try.underlying5
  go_enter Try.func23, Try.ntmps23
  go_wp2_with fail
  refine (crcw.sum_any _ _ _ _ _ (parts_one (nine_reads w 5 (9, 10)) _ (by rw [size_alloc]))).mono ?_
  rintro e w' ⟨rfl, rfl⟩
  rw [known_one]
  go_wp2
  go_ret
  exact ⟨rfl, ((Only.refl _ _).alloc _).alloc _⟩
end Go.Proofs.Ytghajamcjcflaaa.ppc
