/- Numbers with the highest byte first; an image's sectors, and what a slot has, as mathematics. -/
import Derived.Test.YtcbpgplmphgcgaaCrcMath
namespace Go.Proofs.Ytcbpgplmphgcgaa.snm
open crcm
set_option linter.unusedVariables false

/-- the lowest k bytes of a number, the highest first -/
def be : Nat → Nat → List Nat
  | 0, _ => []
  | k + 1, n => (n / 256 ^ k % 256) :: be k n
theorem be_len (n : Nat) : ∀ k, (be k n).length = k := by
  intro k
  induction k with
  | zero => rfl
  | succ k ih => show (_ :: be k n).length = _; rw [List.length_cons, ih]
theorem be_lt (n : Nat) : ∀ k, ∀ c ∈ be k n, c < 256 := by
  intro k
  induction k with
  | zero => intro c hc; cases hc
  | succ k ih =>
    intro c hc
    rcases List.mem_cons.1 hc with rfl | hc
    · exact Nat.mod_lt _ (by omega)
    · exact ih c hc
theorem be_get (n : Nat) : ∀ (k j : Nat), j < k → (be k n).getD j 0 = n / 256 ^ (k - 1 - j) % 256 := by
  intro k
  induction k with
  | zero => intro j h; omega
  | succ k ih =>
    intro j h
    cases j with
    | zero => simp [be]
    | succ j =>
      have := ih j (by omega)
      show (be k n).getD j 0 = _
      rw [this]
      congr 3
      omega
theorem be_take (n k j : Nat) (h : j < k) : (be k n).take (j + 1) = (be k n).take j ++ [n / 256 ^ (k - 1 - j) % 256] := by
  rw [List.take_succ_eq_append_getElem (by rw [be_len]; exact h), ← be_get n k j h]
  simp [List.getD, be_len, h]
/-- the number whose bytes they are, as 64 bits -/
def rbF (a : Nat) (l : List Nat) : Nat := l.foldl (fun n c => (n * 256 + c) % 18446744073709551616) a
def rb (l : List Nat) : Nat := rbF 0 l
theorem rbF_lt : ∀ (l : List Nat) (a : Nat), a < 18446744073709551616 → rbF a l < 18446744073709551616 := by
  intro l
  induction l with
  | nil => intro a h; exact h
  | cons c r ih => intro a h; exact ih _ (Nat.mod_lt _ (by omega))
theorem rb_lt (l : List Nat) : rb l < 18446744073709551616 := rbF_lt l 0 (by omega)
theorem rb_take (l : List Nat) (k : Nat) (h : k < l.length) : rb (l.take (k + 1)) = (rb (l.take k) * 256 + l.getD k 0) % 18446744073709551616 := by
  have e : l.take (k + 1) = l.take k ++ [l.getD k 0] := by rw [List.take_succ_eq_append_getElem h]; simp [List.getD, h]
  unfold rb rbF
  rw [e, List.foldl_append]
  rfl
theorem rbF_be (n : Nat) (h : n < 18446744073709551616) : ∀ k, rbF (n / 256 ^ k) (be k n) = n := by
  intro k
  induction k with
  | zero => simp [rbF, be]
  | succ k ih =>
    have e : (n / 256 ^ (k + 1) * 256 + n / 256 ^ k % 256) % 18446744073709551616 = n / 256 ^ k := by
      have h1 : n / 256 ^ (k + 1) = n / 256 ^ k / 256 := by rw [Nat.pow_succ, Nat.div_div_eq_div_mul]
      have h2 : n / 256 ^ k ≤ n := Nat.div_le_self _ _
      rw [h1]
      omega
    show rbF ((n / 256 ^ (k + 1) * 256 + n / 256 ^ k % 256) % 18446744073709551616) (be k n) = n
    rw [e]
    exact ih
theorem rb_be (n : Nat) (h : n < 18446744073709551616) : rb (be 8 n) = n := by
  have := rbF_be n h 8
  rw [Nat.div_eq_of_lt (by omega)] at this
  exact this
/-- as a number with a sign -/
def toI (n : Nat) : Int := if n < 9223372036854775808 then (n : Int) else (n : Int) - 18446744073709551616
theorem toI_small {n : Nat} (h : n < 9223372036854775808) : toI n = n := if_pos h
/-- bytes, filled up to whole sectors -/
def nsec (n : Nat) : Nat := (n + 63) / 64
def wl (l : List Nat) : List Nat := l ++ List.replicate (nsec l.length * 64 - l.length) 0
theorem wl_len (l : List Nat) : (wl l).length = nsec l.length * 64 := by
  unfold wl nsec
  rw [List.length_append, List.length_replicate]
  omega
theorem wl_lt {l : List Nat} (h : ∀ c ∈ l, c < 256) : ∀ c ∈ wl l, c < 256 := by
  intro c hc
  rcases List.mem_append.1 hc with hc | hc
  · exact h c hc
  · have := (List.mem_replicate.1 hc).2; omega
theorem wl_take (l : List Nat) : (wl l).take l.length = l := by unfold wl; rw [List.take_left']; rfl
def keyL (gen cnt : Nat) : List Nat := be 8 gen ++ be 8 cnt
theorem key_len (gen cnt : Nat) : (keyL gen cnt).length = 16 := by unfold keyL; rw [List.length_append, be_len, be_len]
theorem key_lt (gen cnt : Nat) : ∀ c ∈ keyL gen cnt, c < 256 := by
  intro c hc
  rcases List.mem_append.1 hc with hc | hc
  · exact be_lt _ _ c hc
  · exact be_lt _ _ c hc
/-- the head of a slot, ahead of the noughts; and all of it -/
def hd0 (gen : Nat) (im : List Nat) : List Nat := 3 :: (keyL gen im.length ++ be 4 (more 0 (keyL gen im.length ++ im)))
def headL (gen : Nat) (im : List Nat) : List Nat := wl (hd0 gen im)
theorem hd0_len (gen : Nat) (im : List Nat) : (hd0 gen im).length = 21 := by unfold hd0; rw [List.length_cons, List.length_append, key_len, be_len]
theorem hd0_lt (gen : Nat) (im : List Nat) : ∀ c ∈ hd0 gen im, c < 256 := by
  intro c hc
  rcases List.mem_cons.1 hc with rfl | hc
  · omega
  · rcases List.mem_append.1 hc with hc | hc
    · exact key_lt _ _ c hc
    · exact be_lt _ _ c hc
theorem head_len (gen : Nat) (im : List Nat) : (headL gen im).length = 64 := by unfold headL; rw [wl_len, hd0_len]; rfl
theorem head_eq (gen : Nat) (im : List Nat) : headL gen im = hd0 gen im ++ List.replicate 43 0 := by unfold headL wl; rw [hd0_len]; rfl
theorem head_lt (gen : Nat) (im : List Nat) : ∀ c ∈ headL gen im, c < 256 := wl_lt (hd0_lt gen im)
/-- what a slot's bytes say: their generation, their count, and what they have -/
def gOfB (b : List Nat) : Int := toI (rb ((b.drop 1).take 8))
def cOfB (b : List Nat) : Int := toI (rb ((b.drop 9).take 8))
def parse (b : List Nat) (odd : Nat) : Nat × List Nat :=
  if gOfB b < 1 ∨ gOfB b % 2 ≠ (odd : Int) ∨ cOfB b < 0 ∨ ((b.length - 64 : Nat) : Int) < cOfB b then (0, [])
  else if b.take 64 = headL (gOfB b).toNat ((b.drop 64).take (cOfB b).toNat) then ((gOfB b).toNat, (b.drop 64).take (cOfB b).toNat) else (0, [])
theorem head_g {gen : Nat} (hg : gen < 9223372036854775808) (im r : List Nat) : gOfB (headL gen im ++ r) = gen := by
  have e : headL gen im ++ r = 3 :: (be 8 gen ++ (be 8 im.length ++ (be 4 (more 0 (keyL gen im.length ++ im)) ++ (List.replicate 43 0 ++ r)))) := by
    rw [head_eq]
    unfold hd0 keyL
    simp only [List.cons_append, List.append_assoc]
  unfold gOfB
  rw [e, List.drop_succ_cons, List.drop_zero, List.take_left' (be_len gen 8), rb_be gen (by omega), toI_small hg]
theorem head_c {gen : Nat} (im r : List Nat) (hl : im.length < 9223372036854775808) : cOfB (headL gen im ++ r) = im.length := by
  have e : headL gen im ++ r = (3 :: be 8 gen) ++ (be 8 im.length ++ (be 4 (more 0 (keyL gen im.length ++ im)) ++ (List.replicate 43 0 ++ r))) := by
    rw [head_eq]
    unfold hd0 keyL
    simp only [List.cons_append, List.append_assoc]
  unfold cOfB
  rw [e, List.drop_left' (by rw [List.length_cons, be_len]), List.take_left' (be_len _ 8), rb_be _ (by omega), toI_small hl]
theorem parse_head {gen : Nat} (h1 : 1 ≤ gen) (hg : gen < 9223372036854775808) (im r : List Nat) (hl : im.length < 9223372036854775808) : parse (headL gen im ++ (im ++ r)) (gen % 2) = (gen, im) := by
  unfold parse
  rw [head_g hg, head_c im _ hl]
  have hlen : (headL gen im ++ (im ++ r)).length - 64 = im.length + r.length := by simp only [List.length_append]; rw [head_len]; omega
  rw [if_neg (by rw [hlen]; omega), List.take_left' (head_len gen im), List.drop_left' (head_len gen im), Int.toNat_natCast, Int.toNat_natCast, List.take_left' rfl, if_pos rfl]
theorem parse_gen (b : List Nat) (odd : Nat) : (parse b odd).1 = 0 ∨ ((parse b odd).1 : Int) = gOfB b := by
  unfold parse
  split
  · exact .inl rfl
  · rename_i h
    split
    · right
      show (((gOfB b).toNat : Nat) : Int) = _
      omega
    · exact .inl rfl
theorem parse_none (b : List Nat) (odd : Nat) (h : gOfB b < 1) : parse b odd = (0, []) := by unfold parse; rw [if_pos (.inl h)]
theorem parse_zero {b : List Nat} {odd : Nat} (h : (parse b odd).1 = 0) : parse b odd = (0, []) := by
  unfold parse at h ⊢
  split
  · rfl
  · rename_i h1
    rw [if_neg h1] at h
    split
    · rename_i h2
      rw [if_pos h2] at h
      have h : (gOfB b).toNat = 0 := h
      exfalso
      omega
    · rfl
theorem parse_odd {b : List Nat} {odd : Nat} (h : (parse b odd).1 ≠ 0) : (parse b odd).1 % 2 = odd := by
  unfold parse at h ⊢
  split
  · rename_i h1; rw [if_pos h1] at h; exact absurd rfl h
  · rename_i h1
    rw [if_neg h1] at h
    split
    · show (gOfB b).toNat % 2 = odd
      omega
    · rename_i h2; rw [if_neg h2] at h; exact absurd rfl h
end Go.Proofs.Ytcbpgplmphgcgaa.snm
