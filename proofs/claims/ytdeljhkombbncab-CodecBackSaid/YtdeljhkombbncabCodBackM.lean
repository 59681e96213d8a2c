/- Parts that were kept: their cells in a row, and their bytes one behind the other. -/
import Derived.Test.YtdeljhkombbncabCodWrites0
import Derived.Test.YtdeljhkombbncabCodText
import Derived.Test.YtdeljhkombbncabCodOne0
namespace Go.Proofs.Ytdeljhkombbncab.codw
open Go.RowKit mem codm
set_option linter.unusedVariables false

/-- a part that was kept -/
structure PR where
  k : Int
  n : Int
  y : Bool
  a : Option Addr
  len : Nat
  cap : Nat
  l : List Nat

def PR.cells (r : PR) : List Value := [.int .i64 r.k, .int .i64 r.n, .bool r.y, .slice r.a r.len r.cap]
def PR.val (r : PR) : Value := .agg #[.int .i64 r.k, .int .i64 r.n, .bool r.y, .slice r.a r.len r.cap]
def PR.pb (r : PR) : List Nat := codw.pb r.k r.n r.y r.l
def PR.ok (w : World) (r : PR) : Prop := (-9223372036854775808 ≤ r.n ∧ r.n ≤ 9223372036854775807) ∧ Bytes w r.a r.len r.cap r.l ∧ (r.k % 4 = 0 → 0 ≤ r.n)

def cellsOf (ps : List PR) : List Value := ps.flatMap PR.cells
def bytesOf (ps : List PR) : List Nat := ps.flatMap PR.pb

theorem cellsOf_length (ps : List PR) : (cellsOf ps).length = ps.length * 4 := by
  induction ps with
  | nil => rfl
  | cons r ps ih => show (r.cells ++ cellsOf ps).length = _; rw [List.length_append, ih, List.length_cons]; show 4 + _ = _; omega

theorem cellsOf_append (ps qs : List PR) : cellsOf (ps ++ qs) = cellsOf ps ++ cellsOf qs := by simp [cellsOf]
theorem bytesOf_append (ps qs : List PR) : bytesOf (ps ++ qs) = bytesOf ps ++ bytesOf qs := by simp [bytesOf]

theorem cellsOf_get (ps : List PR) : ∀ (i j : Nat) (r : PR), ps[i]? = some r → j < 4 → (cellsOf ps)[i * 4 + j]? = r.cells[j]? := by
  induction ps with
  | nil => intro i j r h; simp at h
  | cons q ps ih =>
    intro i j r h hj
    have hq : q.cells.length = 4 := rfl
    cases i with
    | zero =>
      simp at h; subst h
      show (q.cells ++ cellsOf ps)[0 * 4 + j]? = _
      rw [Nat.zero_mul, Nat.zero_add, List.getElem?_append_left (by omega)]
    | succ i =>
      simp at h
      show (q.cells ++ cellsOf ps)[(i + 1) * 4 + j]? = _
      rw [List.getElem?_append_right (by omega), show (i + 1) * 4 + j - q.cells.length = i * 4 + j by omega]
      exact ih i j r h hj

theorem cellsOf_one (ps : List PR) : ∀ u ∈ cellsOf ps, u.oneCell' = true := by
  intro u hu
  simp only [cellsOf, List.mem_flatMap] at hu
  obtain ⟨r, _, hr⟩ := hu
  simp only [PR.cells, List.mem_cons, List.not_mem_nil, or_false] at hr
  rcases hr with rfl | rfl | rfl | rfl <;> rfl

theorem PR.ok_only {w w' : World} {r : PR} (h : r.ok w) (ho : Only (fun _ => False) w w') : r.ok w' := ⟨h.1, h.2.1.only ho (fun _ _ f => f), h.2.2⟩

theorem info_part : (Try.prog.info? 42).map (fun i => (i.size, i.bytes)) = some (4, 48) := by kernel_rfl

/-- reading what was written: a count -/
theorem runt_back (n : Int) (h0 : 0 ≤ n) (h1 : n ≤ 9223372036854775807) (r : List Nat) : runt (enc n.toNat ++ r) 9223372036854775807 0 = (n.toNat, r, 0) := by
  have hd : dcount (enc n.toNat ++ r) 9223372036854775807 = (n.toNat, (enc n.toNat).length, 0) := by
    unfold dcount
    rw [dec_enc9 _ (by omega)]
    simp only [if_true]
    rw [if_neg (by omega)]
  unfold runt
  rw [if_pos rfl, hd]
  simp
theorem rint_back (n : Int) (h1 : -9223372036854775808 ≤ n ∧ n ≤ 9223372036854775807) (r : List Nat) : rint (enc (zig n) ++ r) 0 = (n, r, 0) := by
  unfold rint
  rw [if_pos rfl, dec_enc10 _ (zig_lt h1)]
  simp [zag_zig]
end Go.Proofs.Ytdeljhkombbncab.codw
