/- Lines: a row of the call's own. -/
import Derived.Test.YtdfghdccbpnohaaTirA
namespace Go.Proofs.Ytdfghdccbpnohaa.tirw
open Go.RowKit mem tirm intm
set_option linter.unusedVariables false

def encN (x : Ln) : List Value := [.int .i64 x.t, .int .i64 x.b, .int .i64 x.p]
def lvn (ls : List Ln) : List Value := ls.flatMap encN
theorem lvn_nil : lvn [] = [] := rfl
theorem lvn_cons (x : Ln) (r : List Ln) : lvn (x :: r) = encN x ++ lvn r := by simp [lvn]
theorem lvn_append (a b : List Ln) : lvn (a ++ b) = lvn a ++ lvn b := by simp [lvn]
theorem lvn_length (ls : List Ln) : (lvn ls).length = ls.length * 3 := by
  induction ls with
  | nil => rfl
  | cons x r ih => rw [lvn_cons, List.length_append, ih, List.length_cons]; simp [encN]; omega
theorem lvn_one (ls : List Ln) : ∀ u ∈ lvn ls, u.oneCell' = true := by
  intro u hu
  simp only [lvn, List.mem_flatMap] at hu
  obtain ⟨x, _, hx⟩ := hu
  simp [encN] at hx
  rcases hx with rfl | rfl | rfl <;> rfl
theorem lvn_get : ∀ (ls : List Ln) (i c : Nat), i < ls.length → c < 3 → (lvn ls)[i * 3 + c]? = (encN (ls.getD i default))[c]? := by
  intro ls
  induction ls with
  | nil => intro i c h; simp at h
  | cons x r ih =>
    intro i c hi hc
    have hx : (encN x).length = 3 := rfl
    rw [lvn_cons]
    cases i with
    | zero =>
      rw [List.getElem?_append_left (by rw [hx]; omega)]
      simp [List.getD]
    | succ i =>
      rw [List.getElem?_append_right (by rw [hx]; omega), hx, show (i + 1) * 3 + c - 3 = i * 3 + c by omega, ih i c (by simpa using hi) hc]
      simp [List.getD]

/-- a row of lines of the call's own -/
def OwnN (w : World) (v : Value) (ls : List Ln) : Prop := w.ownsRow 0 32 3 v ls.length (lvn ls)
theorem OwnN.nil (w : World) : OwnN w (.slice none 0 0) [] := World.ownsRow_nil _ _ _ _
theorem OwnN.only {S : Nat → Prop} {w w' : World} {v : Value} {ls : List Ln} (h : OwnN w v ls) (ho : Only S w w') (hs : ∀ k, v.ownBlock = some k → ¬ S k) : OwnN w' v ls := owns_only ho h hs
theorem info_line : (Try.prog.info? 32).map (fun i => (i.zero, i.size, i.bytes)) = some (some (.agg #[.int .i64 0, .int .i64 0, .int .i64 0]), 3, 24) := by kernel_rfl
theorem info_tier : (Try.prog.info? 63).map (fun i => (i.zero, i.size, i.bytes)) = some (some (.agg #[.int .i64 0, .int .i64 0]), 2, 16) := by kernel_rfl
theorem info_parts {o : Option TypeInfo} {z : Value} {a b : Nat} (h : o.map (fun i => (i.zero, i.size, i.bytes)) = some (some z, a, b)) : ∃ i, o = some i ∧ i.zero = some z ∧ i.size = a ∧ i.bytes = b := by
  cases o with
  | none => cases h
  | some i => simp at h; exact ⟨i, rfl, h.1, h.2.1, h.2.2⟩

/-- lines that a slice reads -/
def ReadsN (w : World) (a : Option Addr) (len : Nat) (ls : List Ln) : Prop :=
  ls.length = len ∧ (len = 0 ∨ ∃ b off, a = some ⟨b, off, none⟩ ∧ ∀ i, i < len → w.cell? ⟨b, off + i * 3, none⟩ = some (.int .i64 (ls.getD i default).t) ∧ w.cell? ⟨b, off + i * 3 + 1, none⟩ = some (.int .i64 (ls.getD i default).b) ∧ w.cell? ⟨b, off + i * 3 + 2, none⟩ = some (.int .i64 (ls.getD i default).p))
theorem ReadsN.only {S : Nat → Prop} {w w' : World} {a : Option Addr} {len : Nat} {ls : List Ln} (h : ReadsN w a len ls) (ho : Only S w w') (hs : ∀ x, a = some x → ¬ S x.block) : ReadsN w' a len ls := by
  obtain ⟨hl, hc⟩ := h
  refine ⟨hl, ?_⟩
  rcases hc with h0 | ⟨b, off, ha, hcell⟩
  · exact .inl h0
  · have hn : ¬ S b := hs _ ha
    refine .inr ⟨b, off, ha, fun i hi => ?_⟩
    obtain ⟨h1, h2, h3⟩ := hcell i hi
    exact ⟨ho.cell' h1 hn, ho.cell' h2 hn, ho.cell' h3 hn⟩
theorem own_readsN {w : World} {v : Value} {ls : List Ln} (h : OwnN w v ls) : ∃ a cap, v = .slice a ls.length cap ∧ ReadsN w a ls.length ls ∧ ls.length ≤ cap := by
  have h0 := h
  rcases h.2 with ⟨hv, hn⟩ | ⟨g, cap, cur, hv, hg, hh, hc, hm, _⟩
  · exact ⟨none, 0, by rw [hv, hn], ⟨rfl, .inl hn⟩, by omega⟩
  · refine ⟨some ⟨g, 0, none⟩, cap, hv, ⟨rfl, .inr ⟨g, 0, rfl, fun i hi => ?_⟩⟩, hc⟩
    have h1 : w.ownsRow 0 32 3 (.slice (some ⟨g, 0, none⟩) ls.length cap) ls.length (lvn ls) := by rw [← hv]; exact h0
    have e : ∀ c, c < 3 → w.cell? ⟨g, 0 + i * 3 + c, none⟩ = (encN (ls.getD i default))[c]? := fun c hc' => by
      rw [Nat.zero_add, h1.cellAt (i * 3 + c) (by omega), lvn_get ls i c (by omega) hc']
    exact ⟨e 0 (by omega), e 1 (by omega), e 2 (by omega)⟩
end Go.Proofs.Ytdfghdccbpnohaa.tirw
