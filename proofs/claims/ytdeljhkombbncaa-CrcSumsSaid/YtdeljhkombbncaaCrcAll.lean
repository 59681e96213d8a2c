/- The document's All: parts as one text. -/
import Derived.Test.YtdeljhkombbncaaCrcRef
import Derived.Laws.BytesArg
import Derived.Deep.RegionWith
namespace Go.Proofs.Ytdeljhkombbncaa.crca
open Go.RowKit mem
open crcw (strN)
set_option linter.unusedVariables false

theorem conv_reads {w : World} {a : Option Addr} {len : Nat} {l : List Nat} (h : Reads w a len l) (cap : Nat) :
    (convert 61 9 (.slice a len cap)).run Try.prog w = .ok (.string (strN l)) w := by
  obtain ⟨hl, hm, hb, hc⟩ := h
  rcases a with _ | x
  · have h0 : len = 0 := by
      rcases hc with h0 | ⟨b, off, ha, _⟩
      · exact h0
      · cases ha
    subst h0
    obtain rfl : l = [] := List.eq_nil_of_length_eq_zero hl
    exact run_convert_bytes_nil w 61 5 Try.underlying61 Try.underlying5 0 cap 9 Try.underlying9
  · by_cases h0 : len = 0
    · subst h0
      obtain rfl : l = [] := List.eq_nil_of_length_eq_zero hl
      have hld : (loadCells x 0).run Try.prog w = .ok (([] : List Int).map (Value.int .u8)).toArray w := by
        have := run_loadCells_list (P := Try.prog) w x [] (fun j v hj => by simp at hj)
        simpa using this
      rw [run_convert_bytes_string w 61 9 5 _ 0 cap Try.underlying61 Try.underlying5 Try.underlying9, run_bytesToString w x 0 cap [] hld]
      rfl
    · obtain ⟨b, off, hx, hcell⟩ := hc.resolve_left h0
      obtain rfl : x = ⟨b, off, none⟩ := by simpa using hx
      have h1 := run_convert_bytes_arg (P := Try.prog) w 61 5 Try.underlying61 Try.underlying5 b off len cap (l.map fun c => ((c : Nat) : Int)) (by simpa using hl) (fun i hi => by
        rw [hcell i hi]; simp [List.getD, List.getElem?_eq_getElem (by omega : i < l.length)]) 9 Try.underlying9
      rw [h1]
      simp [strOfNums, strN, Function.comp_def]

theorem app_facts {w w2 : World} {v v2 : Value} {l r : List Nat} (h : OwnB w v l) (hown : w2.ownsRow 0 5 1 v2 (l.length + r.length) (bv l ++ bv r)) (hgrow : w.grownBy w2 v.ownBlock)
    (hk : ∀ k, v2.ownBlock = some k → v.ownBlock = some k ∨ w.heap.size ≤ k) (hr : ∀ c ∈ r, c < 256) (hm : (l ++ r).length ≤ maxLen) :
    OwnB w2 v2 (l ++ r) ∧ Only (fun k => v.ownBlock = some k) w w2 := by
  refine ⟨⟨?_, ?_, hm⟩, Only.of_grown hgrow⟩
  · rw [List.length_append, bv_append]; exact hown
  · intro c hc
    rcases List.mem_append.1 hc with h1 | h1
    · exact h.2.1 c h1
    · exact hr c h1

theorem info_parts {o : Option TypeInfo} {z : Value} {a b : Nat} (h : o.map (fun i => (i.zero, i.size, i.bytes)) = some (some z, a, b)) : ∃ i, o = some i ∧ i.zero = some z ∧ i.size = a ∧ i.bytes = b := by
  cases o with
  | none => cases h
  | some i => simp at h; exact ⟨i, rfl, h.1, h.2.1, h.2.2⟩

/-- slices of bytes, none of them nil -/
def PartsS (w : World) (a : Option Addr) (n : Nat) (ls : List (List Nat)) : Prop :=
  ls.length = n ∧ (n = 0 ∨ ∃ b off, a = some ⟨b, off, Option.none⟩ ∧ ∀ i, i < n → ∃ x len cap, w.cell? ⟨b, off + i, Option.none⟩ = some (.slice (some x) len cap) ∧ Reads w (some x) len (ls.getD i []))

theorem PartsS.only {w w' : World} {a : Option Addr} {n : Nat} {ls : List (List Nat)} (h : PartsS w a n ls) (ho : Only (fun _ => False) w w') : PartsS w' a n ls := by
  refine ⟨h.1, ?_⟩
  rcases h.2 with h0 | ⟨b, off, ha, hc⟩
  · exact .inl h0
  · refine .inr ⟨b, off, ha, fun i hi => ?_⟩
    obtain ⟨x, len, cap, h1, h2⟩ := hc i hi
    exact ⟨x, len, cap, ho.cell' h1 (fun f => f), h2.only ho (fun _ _ f => f)⟩

theorem flat_succ (ls : List (List Nat)) (k : Nat) (h : k < ls.length) : (ls.take (k + 1)).flatten = (ls.take k).flatten ++ ls.getD k [] := by
  rw [List.take_succ_eq_append_getElem h, List.flatten_append]
  simp [List.getD, h]

theorem flat_len : ∀ (ls : List (List Nat)), (∀ l ∈ ls, l.length ≤ 500) → ls.flatten.length ≤ 500 * ls.length := by
  intro ls
  induction ls with
  | nil => intro _; simp
  | cons l ls ih =>
    intro h
    have h1 := ih (fun x hx => h x (by simp [hx]))
    have h2 := h l (by simp)
    rw [List.flatten_cons, List.length_append, List.length_cons]
    omega

/-- the text on the way -/
def HeadA (w wr : World) (v : Value) (l : List Nat) : Prop := OwnB wr v l ∧ Only (fun _ => False) w wr ∧ ∀ k, v.ownBlock = some k → w.heap.size ≤ k

theorem heada_next {w wr w2 : World} {v v2 : Value} {l l2 : List Nat} (h : HeadA w wr v l) (ha : OwnB w2 v2 l2 ∧ Only (fun k => v.ownBlock = some k) wr w2) (hk : ∀ k, v2.ownBlock = some k → v.ownBlock = some k ∨ wr.heap.size ≤ k) : HeadA w w2 v2 l2 := by
  refine ⟨ha.1, h.2.1.then ha.2 (fun i hi e => ?_), fun k e => ?_⟩
  · have := h.2.2 i e; omega
  · rcases hk k e with h1 | h1
    · exact h.2.2 k h1
    · have := h.2.1.size; omega

theorem conv_own {w : World} {v : Value} {l : List Nat} (h : OwnB w v l) : (convert 61 9 v).run Try.prog w = .ok (.string (strN l)) w := by
  rcases h.forms with ⟨rfl, rfl⟩ | ⟨g, cap, rfl, _⟩
  · exact conv_reads (a := Option.none) (len := 0) (l := []) ⟨rfl, by unfold maxLen; omega, by simp, .inl rfl⟩ 0
  · exact conv_reads (h.reads rfl) cap

set_option maxRecDepth 100000 in
set_option maxHeartbeats 1000000 in
theorem all_any (a : Option Addr) (n cap : Nat) (ls : List (List Nat)) (w : World) (h : PartsS w a n ls) (hn : n ≤ 8) (hs : ∀ l ∈ ls, l.length ≤ 500) :
    Calls Try.prog 28 #[.slice a n cap] w fun e w' => e = .returned (.string (strN ls.flatten)) ∧ Only (fun _ => False) w w' := by
  obtain ⟨i0, hi, hz0, hz1, hz2⟩ := info_parts info_u8
  have H := Lib.hid h
  have HS := Lib.hid hs
  have HL := Lib.hid h.1
  clear h hs
  have HB : Hid (∀ k, k ≤ n → (ls.take k).flatten.length ≤ 4000) := Lib.hid (by
    intro k hk
    have h1 := flat_len (ls.take k) (fun l hl => HS.out l (List.mem_of_mem_take hl))
    have h2 : (ls.take k).length = k := by rw [List.length_take, HL.out]; omega
    rw [h2] at h1; omega)
  go_enter Try.func28, Try.ntmps28
  go_wp2_with fail
  go_loopw [3, 4] (fun v i wr => ∃ k : Nat, k ≤ n ∧ i = .int .i64 k ∧ Hid (HeadA w wr v (ls.take k).flatten)) (fun _ i _ => n - (intOf i).toNat)
  case atStart => exact ⟨0, by omega, rfl, Lib.hid ⟨OwnB.nil _, Only.refl _ _, fun k hk => by cases hk⟩⟩
  case round =>
    obtain ⟨k, hk, rfl, HH⟩ := hrel
    by_cases h8 : k < n
    · obtain ⟨b, off, rfl, hcell⟩ := H.out.2.resolve_left (by omega)
      obtain ⟨x, len, cap', hcl0, hR0⟩ := hcell k h8
      have hcl := HH.out.2.1.cell' hcl0 (fun f => f)
      have HR := Lib.hid (hR0.only HH.out.2.1 (fun _ _ f => f))
      have HF : Hid ((ls.take (k + 1)).flatten = (ls.take k).flatten ++ ls.getD k []) := Lib.hid (flat_succ ls k (by rw [HL.out]; exact h8))
      have HBK := Lib.hid (HB.out (k + 1) (by omega))
      clear hcell hcl0 hR0
      generalize ls.getD k [] = r at *
      generalize (ls.take k).flatten = l at *
      generalize hl2 : (ls.take (k + 1)).flatten = l2 at *
      obtain rfl : l2 = l ++ r := HF.out
      have hlen := HBK.out
      rw [List.length_append] at hlen
      have hrl := HR.out.1
      have hll : l.length ≤ 4000 := by omega
      have hrn : len ≤ 4000 := by omega
      clear hlen
      go_wp2_with (first | (at_builtin; refine append_mine rfl _ _ 61 rfl 5 i0 (.int .u8 0) 1 1 Try.underlying61 hi hz0 hz1 hz2 rfl (by decide) _ l.length (bv l) rfl HH.out.1.1 x len cap' (bv r) rfl ?k2 ?k3 ?k4 ?k5 ?k6 ?_))
      case k2 => rw [bv_length, hrl]
      case k3 => exact news_of_reads HR.out
      case k4 => exact bv_one _
      case k5 => unfold maxLen; omega
      case k6 => omega
      intro v2 w2 hown hgrow hk2
      have HA := Lib.hid (app_facts HH.out.1 (r := r) (by rw [hrl]; exact hown) hgrow hk2 HR.out.2.2.1 (by unfold maxLen; rw [List.length_append]; omega))
      have HN : Hid (HeadA w w2 v2 (ls.take (k + 1)).flatten) := Lib.hid (by rw [hl2]; exact heada_next HH.out HA.out hk2)
      clear hown hgrow hk2 hrl hll hrn
      go_wp2_with fail
      go_roundw
      case rel => exact ⟨k + 1, by omega, by go_num, HN⟩
      case measure => simp [intOf]; omega
    · obtain rfl : k = n := by omega
      have hcv := conv_own HH.out.1
      have e : (ls.take k).flatten = ls.flatten := by rw [List.take_of_length_le (by rw [HL.out]; omega)]
      rw [e] at hcv
      go_wp2_with fail
      go_ret
      exact ⟨rfl, HH.out.2.1⟩
end Go.Proofs.Ytdeljhkombbncaa.crca
