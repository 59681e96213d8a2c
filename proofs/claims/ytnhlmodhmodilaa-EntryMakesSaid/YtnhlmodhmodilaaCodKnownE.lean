/- A reader that is made; a writer that is made; bytes as a string; the known codes. -/
import Derived.Test.YtnhlmodhmodilaaCodPut
import Derived.Test.YtnhlmodhmodilaaCodUintE
import Derived.Laws.BytesArg
namespace Go.Proofs.Ytnhlmodhmodilaa.codw
open Go.RowKit mem codm
set_option linter.unusedVariables false

/-- bytes as a string -/
def strN (l : List Nat) : ByteArray := ⟨(l.map UInt8.ofNat).toArray⟩

theorem strN_inj {l r : List Nat} (hl : ∀ c ∈ l, c < 256) (hr : ∀ c ∈ r, c < 256) (h : strN l = strN r) : l = r := by
  have h1 : l.map UInt8.ofNat = r.map UInt8.ofNat := by
    have : (strN l).data.toList = (strN r).data.toList := by rw [h]
    simpa [strN] using this
  have e : ∀ (x : List Nat), (∀ c ∈ x, c < 256) → (x.map UInt8.ofNat).map UInt8.toNat = x := by
    intro x hx
    rw [List.map_map]
    conv => rhs; rw [← List.map_id x]
    apply List.map_congr_left
    intro c hc
    have := hx c hc
    simp
    omega
  rw [← e l hl, ← e r hr, h1]

theorem conv_reads {w : World} {a : Option Addr} {len : Nat} {l : List Nat} (h : Reads w a len l) (cap : Nat) :
    (convert 37 9 (.slice a len cap)).run Try.prog w = .ok (.string (strN l)) w := by
  obtain ⟨hl, hm, hb, hc⟩ := h
  rcases a with _ | x
  · have h0 : len = 0 := by
      rcases hc with h0 | ⟨b, off, ha, _⟩
      · exact h0
      · cases ha
    subst h0
    obtain rfl : l = [] := List.eq_nil_of_length_eq_zero hl
    exact run_convert_bytes_nil w 37 5 Try.underlying37 Try.underlying5 0 cap 9 Try.underlying9
  · by_cases h0 : len = 0
    · subst h0
      obtain rfl : l = [] := List.eq_nil_of_length_eq_zero hl
      have hld : (loadCells x 0).run Try.prog w = .ok (([] : List Int).map (Value.int .u8)).toArray w := by
        have := run_loadCells_list (P := Try.prog) w x [] (fun j v hj => by simp at hj)
        simpa using this
      rw [run_convert_bytes_string w 37 9 5 _ 0 cap Try.underlying37 Try.underlying5 Try.underlying9, run_bytesToString w x 0 cap [] hld]
      rfl
    · obtain ⟨b, off, hx, hcell⟩ := hc.resolve_left h0
      obtain rfl : x = ⟨b, off, none⟩ := by simpa using hx
      have h1 := run_convert_bytes_arg (P := Try.prog) w 37 5 Try.underlying37 Try.underlying5 b off len cap (l.map fun c => ((c : Nat) : Int)) (by simpa using hl) (fun i hi => by
        rw [hcell i hi]; simp [List.getD, List.getElem?_eq_getElem (by omega : i < l.length)]) 9 Try.underlying9
      rw [h1]
      simp [strOfNums, strN, Function.comp_def]

theorem new_writer (w : World) (t : TypeId) : WR (w.alloc (.cells #[.slice none 0 0, .int .i64 0] t)) w.heap.size (.slice none 0 0) [] 0 :=
  ⟨by simp, by simp, by simp, by simp, OwnB.nil _, fun f => by cases f⟩

theorem new_reader {w : World} {a : Option Addr} {len cap : Nat} {l : List Nat} (h : Bytes w a len cap l) (hlt : ∀ x, a = some x → x.block < w.heap.size) (t : TypeId) :
    RD (w.alloc (.cells #[.slice a len cap, .int .i64 0] t)) w.heap.size a len cap l 0 :=
  ⟨by simp, by simp, by simp, by simp, h.1.only (S := fun _ => False) ((Only.refl _ w).alloc _) (fun _ _ f => f), h.2.1, h.2.2.1, fun x hx e => by have := hlt x hx; omega⟩

/-- a new reader -/
theorem read_any (a : Option Addr) (len cap : Nat) (l : List Nat) (w : World) (h : Bytes w a len cap l) (hmax : len ≤ 140737488355328) :
    Calls Try.prog 21 #[.slice a len cap] w fun en w' => ∃ p a' len' cap', en = .returned (.pointer (some ⟨p, 0, none⟩)) ∧ RD w' p a' len' cap' l 0 ∧ Only (fun _ => False) w w' ∧ w.heap.size ≤ p ∧ (∀ x, a' = some x → w.heap.size ≤ x.block ∧ x.block < w'.heap.size) := by
  have HB := Lib.hid h
  clear h
  go_enter Try.func21, Try.ntmps21
  go_wp2_with fail
  refine (clone_any a len cap l _ HB.out hmax).mono ?_
  rintro e1 w1 ⟨v1, rfl, hv, ho, hk⟩
  obtain ⟨a1, len1, cap1, rfl, hB1⟩ := bytes_of_own hv
  have hlt : ∀ x, a1 = some x → x.block < w1.heap.size := by
    intro x hx
    subst hx
    rcases hv.forms with ⟨h1, _⟩ | ⟨g, c, h1, hg, _⟩
    · cases h1
    · simp at h1; rw [h1.1]; exact hg
  have hk2 : ∀ x, a1 = some x → w.heap.size ≤ x.block := fun x hx => hk x.block (by rw [hx]; rfl)
  have hlt2 : ∀ x, a1 = some x → w.heap.size ≤ x.block ∧ x.block < w1.heap.size + 1 := fun x hx => ⟨hk2 x hx, by have := hlt x hx; omega⟩
  have HN := Lib.hid (new_reader hB1 hlt 79)
  have HO := Lib.hid ho
  clear hv hk ho hB1 hlt
  go_wp2
  go_ret
  exact ⟨w1.heap.size, a1, len1, cap1, rfl, HN.out, HO.out.alloc _, HO.out.size, by rw [size_alloc]; exact hlt2⟩

end Go.Proofs.Ytnhlmodhmodilaa.codw
