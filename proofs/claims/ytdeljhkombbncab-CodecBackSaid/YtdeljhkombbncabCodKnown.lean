/- A reader that is made; a writer that is made; bytes as a string; the known codes. -/
import Derived.Test.YtdeljhkombbncabCodPut
import Derived.Test.YtdeljhkombbncabCodUint
import Derived.Laws.BytesArg
namespace Go.Proofs.Ytdeljhkombbncab.codw
open Go.RowKit mem codm
set_option linter.unusedVariables false

/-- bytes as a string -/
def strN (l : List Nat) : ByteArray := ⟨(l.map UInt8.ofNat).toArray⟩

theorem strN_inj {l r : List Nat} (hl : ∀ c ∈ l, c < 256) (hr : ∀ c ∈ r, c < 256) (h : strN l = strN r) : l = r := by
  have h1 : l.map UInt8.ofNat = r.map UInt8.ofNat := by
    have : (strN l).data.toList = (strN r).data.toList := by rw [h]
    simpa [strN] using this
  have e : ∀ (x : List Nat), (∀ c ∈ x, c < 256) → (x.map UInt8.ofNat).map UInt8.toNat = x := by
    intro x hx
    rw [List.map_map]
    conv => rhs; rw [← List.map_id x]
    apply List.map_congr_left
    intro c hc
    have := hx c hc
    simp
    omega
  rw [← e l hl, ← e r hr, h1]

theorem conv_reads {w : World} {a : Option Addr} {len : Nat} {l : List Nat} (h : Reads w a len l) (cap : Nat) :
    (convert 22 9 (.slice a len cap)).run Try.prog w = .ok (.string (strN l)) w := by
  obtain ⟨hl, hm, hb, hc⟩ := h
  rcases a with _ | x
  · have h0 : len = 0 := by
      rcases hc with h0 | ⟨b, off, ha, _⟩
      · exact h0
      · cases ha
    subst h0
    obtain rfl : l = [] := List.eq_nil_of_length_eq_zero hl
    exact run_convert_bytes_nil w 22 5 Try.underlying22 Try.underlying5 0 cap 9 Try.underlying9
  · by_cases h0 : len = 0
    · subst h0
      obtain rfl : l = [] := List.eq_nil_of_length_eq_zero hl
      have hld : (loadCells x 0).run Try.prog w = .ok (([] : List Int).map (Value.int .u8)).toArray w := by
        have := run_loadCells_list (P := Try.prog) w x [] (fun j v hj => by simp at hj)
        simpa using this
      rw [run_convert_bytes_string w 22 9 5 _ 0 cap Try.underlying22 Try.underlying5 Try.underlying9, run_bytesToString w x 0 cap [] hld]
      rfl
    · obtain ⟨b, off, hx, hcell⟩ := hc.resolve_left h0
      obtain rfl : x = ⟨b, off, none⟩ := by simpa using hx
      have h1 := run_convert_bytes_arg (P := Try.prog) w 22 5 Try.underlying22 Try.underlying5 b off len cap (l.map fun c => ((c : Nat) : Int)) (by simpa using hl) (fun i hi => by
        rw [hcell i hi]; simp [List.getD, List.getElem?_eq_getElem (by omega : i < l.length)]) 9 Try.underlying9
      rw [h1]
      simp [strOfNums, strN, Function.comp_def]

theorem new_writer (w : World) (t : TypeId) : WR (w.alloc (.cells #[.slice none 0 0, .int .i64 0] t)) w.heap.size (.slice none 0 0) [] 0 :=
  ⟨by simp, by simp, by simp, by simp, OwnB.nil _, fun f => by cases f⟩

theorem new_reader {w : World} {a : Option Addr} {len cap : Nat} {l : List Nat} (h : Bytes w a len cap l) (hlt : ∀ x, a = some x → x.block < w.heap.size) (t : TypeId) :
    RD (w.alloc (.cells #[.slice a len cap, .int .i64 0] t)) w.heap.size a len cap l 0 :=
  ⟨by simp, by simp, by simp, by simp, h.1.only (S := fun _ => False) ((Only.refl _ w).alloc _) (fun _ _ f => f), h.2.1, h.2.2.1, fun x hx e => by have := hlt x hx; omega⟩

/-- a new reader -/
theorem read_any (a : Option Addr) (len cap : Nat) (l : List Nat) (w : World) (h : Bytes w a len cap l) (hmax : len ≤ 140737488355328) :
    Calls Try.prog 18 #[.slice a len cap] w fun en w' => ∃ p a' len' cap', en = .returned (.pointer (some ⟨p, 0, none⟩)) ∧ RD w' p a' len' cap' l 0 ∧ Only (fun _ => False) w w' ∧ w.heap.size ≤ p ∧ (∀ x, a' = some x → w.heap.size ≤ x.block ∧ x.block < w'.heap.size) := by
  have HB := Lib.hid h
  clear h
  go_enter Try.func18, Try.ntmps18
  go_wp2_with fail
  refine (clone_any a len cap l _ HB.out hmax).mono ?_
  rintro e1 w1 ⟨v1, rfl, hv, ho, hk⟩
  obtain ⟨a1, len1, cap1, rfl, hB1⟩ := bytes_of_own hv
  have hlt : ∀ x, a1 = some x → x.block < w1.heap.size := by
    intro x hx
    subst hx
    rcases hv.forms with ⟨h1, _⟩ | ⟨g, c, h1, hg, _⟩
    · cases h1
    · simp at h1; rw [h1.1]; exact hg
  have hk2 : ∀ x, a1 = some x → w.heap.size ≤ x.block := fun x hx => hk x.block (by rw [hx]; rfl)
  have hlt2 : ∀ x, a1 = some x → w.heap.size ≤ x.block ∧ x.block < w1.heap.size + 1 := fun x hx => ⟨hk2 x hx, by have := hlt x hx; omega⟩
  have HN := Lib.hid (new_reader hB1 hlt 62)
  have HO := Lib.hid ho
  clear hv hk ho hB1 hlt
  go_wp2
  go_ret
  exact ⟨w1.heap.size, a1, len1, cap1, rfl, HN.out, HO.out.alloc _, HO.out.size, by rw [size_alloc]; exact hlt2⟩

set_option maxRecDepth 100000 in
theorem codes_any (w : World) : Calls Try.prog 17 #[] w fun en w' => en = .returned (.bool true) ∧ Below w.heap.size w w' := by
  go_enter Try.func17, Try.ntmps17
  go_wp2_with fail
  refine (wuint_any w.heap.size _ [] 0 300 _ (by omega) (by omega) (new_writer w _) (by simp)).mono ?_
  rintro e1 w1 ⟨rfl, v1, hW1, hO1, hK1⟩
  have hO1' : Only (fun _ => False) w w1 := ((Only.refl (fun _ => False) w).alloc _).then hO1 (fun i hi h => by
    rcases h with h | h
    · omega
    · cases h)
  have hK1' : ∀ k, v1.ownBlock = some k → w.heap.size ≤ k := fun k hk => by
    rcases hK1 k hk with h | h
    · cases h
    · rw [size_alloc] at h; omega
  have HW1 := Lib.hid hW1
  clear hW1 hO1 hK1
  go_wp2_with fail
  refine (wint_any w.heap.size v1 _ 0 (-1) _ (by omega) HW1.out (by decide)).mono ?_
  rintro e2 w2 ⟨rfl, v2, hW2, hO2, hK2⟩
  have hO2' : Only (fun _ => False) w w2 := hO1'.then hO2 (fun i hi h => by
    rcases h with h | h
    · omega
    · have := hK1' i h; omega)
  have HW2 := Lib.hid hW2
  clear hW2 hO2 hK2 hO1' hK1' HW1
  go_wp2_with fail
  refine (wbytes_any w.heap.size v2 _ 0 _ HW2.out (by decide)).mono ?_
  rintro e3 w3 ⟨v3, rfl, hv3, hO3, _⟩
  obtain ⟨a3, len3, cap3, rfl, hB3⟩ := bytes_of_own hv3
  have hcv := conv_reads hB3.1 cap3
  rw [show strN (([] ++ enc (300 : Int).toNat) ++ enc (zig (-1))) = ⟨#[172, 2, 1]⟩ by decide] at hcv
  have HO := Lib.hid (hO2'.trans hO3)
  clear hB3 hv3 hO3 hO2' HW2
  go_wp2
  go_ret
  exact ⟨rfl, HO.out.none⟩
end Go.Proofs.Ytdeljhkombbncab.codw
