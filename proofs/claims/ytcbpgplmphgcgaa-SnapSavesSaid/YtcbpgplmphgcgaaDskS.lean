/- Bytes as a string. -/
import Derived.Test.YtcbpgplmphgcgaaMem
import Derived.Laws.BytesArg
namespace Go.Proofs.Ytcbpgplmphgcgaa.dskw
open Go.RowKit mem
set_option linter.unusedVariables false

/-- bytes as a string -/
def strN (l : List Nat) : ByteArray := ⟨(l.map UInt8.ofNat).toArray⟩

theorem strN_inj {l r : List Nat} (hl : ∀ c ∈ l, c < 256) (hr : ∀ c ∈ r, c < 256) (h : strN l = strN r) : l = r := by
  have h1 : l.map UInt8.ofNat = r.map UInt8.ofNat := by
    have : (strN l).data.toList = (strN r).data.toList := by rw [h]
    simpa [strN] using this
  have e : ∀ (x : List Nat), (∀ c ∈ x, c < 256) → (x.map UInt8.ofNat).map UInt8.toNat = x := by
    intro x hx
    rw [List.map_map]
    conv => rhs; rw [← List.map_id x]
    apply List.map_congr_left
    intro c hc
    have := hx c hc
    simp
    omega
  rw [← e l hl, ← e r hr, h1]

theorem conv_reads {w : World} {a : Option Addr} {len : Nat} {l : List Nat} (h : Reads w a len l) (cap : Nat) :
    (convert 47 9 (.slice a len cap)).run Try.prog w = .ok (.string (strN l)) w := by
  obtain ⟨hl, hm, hb, hc⟩ := h
  rcases a with _ | x
  · have h0 : len = 0 := by
      rcases hc with h0 | ⟨b, off, ha, _⟩
      · exact h0
      · cases ha
    subst h0
    obtain rfl : l = [] := List.eq_nil_of_length_eq_zero hl
    exact run_convert_bytes_nil w 47 5 Try.underlying47 Try.underlying5 0 cap 9 Try.underlying9
  · by_cases h0 : len = 0
    · subst h0
      obtain rfl : l = [] := List.eq_nil_of_length_eq_zero hl
      have hld : (loadCells x 0).run Try.prog w = .ok (([] : List Int).map (Value.int .u8)).toArray w := by
        have := run_loadCells_list (P := Try.prog) w x [] (fun j v hj => by simp at hj)
        simpa using this
      rw [run_convert_bytes_string w 47 9 5 _ 0 cap Try.underlying47 Try.underlying5 Try.underlying9, run_bytesToString w x 0 cap [] hld]
      rfl
    · obtain ⟨b, off, hx, hcell⟩ := hc.resolve_left h0
      obtain rfl : x = ⟨b, off, none⟩ := by simpa using hx
      have h1 := run_convert_bytes_arg (P := Try.prog) w 47 5 Try.underlying47 Try.underlying5 b off len cap (l.map fun c => ((c : Nat) : Int)) (by simpa using hl) (fun i hi => by
        rw [hcell i hi]; simp [List.getD, List.getElem?_eq_getElem (by omega : i < l.length)]) 9 Try.underlying9
      rw [h1]
      simp [strOfNums, strN, Function.comp_def]

end Go.Proofs.Ytcbpgplmphgcgaa.dskw
