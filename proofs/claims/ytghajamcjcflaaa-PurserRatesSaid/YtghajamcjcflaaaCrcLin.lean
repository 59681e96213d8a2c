/- The sum's step is linear and loses nothing: two texts that differ within four bytes have unlike sums. -/
import Derived.Test.YtghajamcjcflaaaCrcMath
namespace Go.Proofs.Ytghajamcjcflaaa.crcm
set_option linter.unusedVariables false

/-- a bit's step, over whatever polynomial -/
def bitP (p n : Nat) : Nat := if n % 2 = 1 then (n / 2) ^^^ p else n / 2

theorem bit1_eq (n : Nat) : bit1 n = bitP 3988292384 n := rfl

theorem half_xor (a b : Nat) : (a ^^^ b) / 2 = a / 2 ^^^ b / 2 := by
  have := Nat.shiftRight_xor_distrib (a := a) (b := b) (i := 1)
  simpa [Nat.shiftRight_eq_div_pow] using this

theorem odd_xor (a b : Nat) : (a ^^^ b) % 2 = 1 ↔ ¬ (a % 2 = 1 ↔ b % 2 = 1) := Nat.xor_mod_two_eq_one

theorem xor4 (a b p : Nat) : (a ^^^ p) ^^^ (b ^^^ p) = a ^^^ b := by
  rw [Nat.xor_assoc, Nat.xor_comm b p, ← Nat.xor_assoc p p b, Nat.xor_self, Nat.zero_xor]

theorem bitP_xor (p a b : Nat) : bitP p (a ^^^ b) = bitP p a ^^^ bitP p b := by
  unfold bitP
  rw [half_xor]
  by_cases ha : a % 2 = 1 <;> by_cases hb : b % 2 = 1
  · rw [if_pos ha, if_pos hb, if_neg (by rw [odd_xor]; simp [ha, hb]), xor4]
  · rw [if_pos ha, if_neg hb, if_pos (by rw [odd_xor]; simp [ha, hb]), Nat.xor_assoc, Nat.xor_comm (b / 2) p, ← Nat.xor_assoc]
  · rw [if_neg ha, if_pos hb, if_pos (by rw [odd_xor]; simp [ha, hb]), Nat.xor_assoc]
  · rw [if_neg ha, if_neg hb, if_neg (by rw [odd_xor]; simp [ha, hb])]

theorem bit1_xor (a b : Nat) : bit1 (a ^^^ b) = bit1 a ^^^ bit1 b := by
  rw [bit1_eq, bit1_eq, bit1_eq]; exact bitP_xor _ a b

theorem bitk_xor (k a b : Nat) : bitk k (a ^^^ b) = bitk k a ^^^ bitk k b := by
  induction k with
  | zero => rfl
  | succ k ih => show bit1 (bitk k (a ^^^ b)) = bit1 (bitk k a) ^^^ bit1 (bitk k b); rw [ih, bit1_xor]

theorem eq_of_xor {a b : Nat} (h : a ^^^ b = 0) : a = b := by
  have h2 : a ^^^ b ^^^ b = 0 ^^^ b := by rw [h]
  rwa [Nat.xor_assoc, Nat.xor_self, Nat.xor_zero, Nat.zero_xor] at h2

theorem bitP_zero {p n : Nat} (hp : 2147483648 ≤ p) (hn : n < 4294967296) (h : bitP p n = 0) : n = 0 := by
  unfold bitP at h
  by_cases ho : n % 2 = 1
  · rw [if_pos ho] at h
    have := eq_of_xor h
    omega
  · rw [if_neg ho] at h; omega

theorem bit1_zero {n : Nat} (hn : n < 4294967296) (h : bit1 n = 0) : n = 0 := by
  rw [bit1_eq] at h; exact bitP_zero (by omega) hn h

theorem bitk_zero {n : Nat} (hn : n < 4294967296) : ∀ k, bitk k n = 0 → n = 0 := by
  intro k
  induction k with
  | zero => exact id
  | succ k ih => exact fun h => ih (bit1_zero (bitk_lt hn k) h)

theorem bitk_of_zero (k : Nat) : bitk k 0 = 0 := by
  induction k with
  | zero => rfl
  | succ k ih => show bit1 (bitk k 0) = 0; rw [ih]; rfl

theorem bitk_inj {a b : Nat} (ha : a < 4294967296) (hb : b < 4294967296) (k : Nat) (h : bitk k a = bitk k b) : a = b := by
  have h2 : bitk k (a ^^^ b) = 0 := by rw [bitk_xor, h, Nat.xor_self]
  exact eq_of_xor (bitk_zero (xor_lt ha hb) k h2)

/-- a number whose lowest bits are none is moved alone -/
theorem bitk_shift (k y : Nat) : bitk k (y * 2 ^ k) = y := by
  have aux : ∀ k j, bitk k (y * 2 ^ (k + j)) = y * 2 ^ j := by
    intro k
    induction k with
    | zero => intro j; rw [Nat.zero_add]; rfl
    | succ k ih =>
      intro j
      have h1 := ih (j + 1)
      rw [show k + (j + 1) = k + 1 + j by omega] at h1
      show bit1 (bitk k (y * 2 ^ (k + 1 + j))) = _
      rw [h1, bit1_eq]
      unfold bitP
      rw [Nat.pow_succ, ← Nat.mul_assoc, if_neg (by omega), Nat.mul_div_cancel _ (by omega)]
  have := aux k 0
  simpa using this

theorem bit8_of {x y : Nat} (hx : x < 4294967296) (hy : y < 16777216) (h : bitk 8 x = y) : x = y * 256 := by
  apply bitk_inj hx (by omega) 8
  rw [h, show (256 : Nat) = 2 ^ 8 from rfl, bitk_shift]

theorem byte1_inj {s t c : Nat} (hs : s < 4294967296) (ht : t < 4294967296) (hc : c < 256) (h : byte1 s c = byte1 t c) : s = t := by
  have h2 := bitk_inj (xor_lt hs (by omega)) (xor_lt ht (by omega)) 8 h
  have h3 : (s ^^^ c) ^^^ (t ^^^ c) = 0 := by rw [h2, Nat.xor_self]
  rw [xor4] at h3
  exact eq_of_xor h3

theorem run_inj {l : List Nat} : ∀ {s t : Nat}, s < 4294967296 → t < 4294967296 → (∀ c ∈ l, c < 256) → run s l = run t l → s = t := by
  induction l with
  | nil => intro s t _ _ _ h; exact h
  | cons c l ih =>
    intro s t hs ht hl h
    have hc := hl c (by simp)
    exact byte1_inj hs ht hc (ih (byte1_lt hs hc) (byte1_lt ht hc) (fun d hd => hl d (by simp [hd])) h)

theorem xor_pair (a b c d : Nat) : (a ^^^ b) ^^^ (c ^^^ d) = (a ^^^ c) ^^^ (b ^^^ d) := by
  rw [Nat.xor_assoc, Nat.xor_assoc, ← Nat.xor_assoc b c d, Nat.xor_comm b c, Nat.xor_assoc c b d]

theorem byte1_diff (s t c d : Nat) : byte1 s c ^^^ byte1 t d = bitk 8 ((s ^^^ t) ^^^ (c ^^^ d)) := by
  unfold byte1; rw [← bitk_xor, xor_pair]

/-- four bytes, of one state, to unlike bytes: unlike states -/
theorem four {s a0 a1 a2 a3 d0 d1 d2 d3 : Nat} (hs : s < 4294967296) (ha0 : a0 < 256) (ha1 : a1 < 256) (ha2 : a2 < 256) (ha3 : a3 < 256)
    (hd0 : d0 < 256) (hd1 : d1 < 256) (hd2 : d2 < 256) (hd3 : d3 < 256) (h : run s [a0, a1, a2, a3] = run s [a0 ^^^ d0, a1 ^^^ d1, a2 ^^^ d2, a3 ^^^ d3]) :
    d0 = 0 ∧ d1 = 0 ∧ d2 = 0 ∧ d3 = 0 := by
  have lt8 : ∀ {x y : Nat}, x < 256 → y < 256 → x ^^^ y < 256 := fun hx hy => Nat.xor_lt_two_pow (n := 8) hx hy
  have x0 : ∀ {c d : Nat}, c ^^^ (c ^^^ d) = d := fun {c d} => by rw [← Nat.xor_assoc, Nat.xor_self, Nat.zero_xor]
  have t1 := byte1_lt hs ha0
  have u1 := byte1_lt hs (lt8 ha0 hd0)
  have t2 := byte1_lt t1 ha1
  have u2 := byte1_lt u1 (lt8 ha1 hd1)
  have t3 := byte1_lt t2 ha2
  have u3 := byte1_lt u2 (lt8 ha2 hd2)
  have e1 := byte1_diff s s a0 (a0 ^^^ d0)
  have e2 := byte1_diff (byte1 s a0) (byte1 s (a0 ^^^ d0)) a1 (a1 ^^^ d1)
  have e3 := byte1_diff (byte1 (byte1 s a0) a1) (byte1 (byte1 s (a0 ^^^ d0)) (a1 ^^^ d1)) a2 (a2 ^^^ d2)
  have e4 := byte1_diff (byte1 (byte1 (byte1 s a0) a1) a2) (byte1 (byte1 (byte1 s (a0 ^^^ d0)) (a1 ^^^ d1)) (a2 ^^^ d2)) a3 (a3 ^^^ d3)
  have h' : byte1 (byte1 (byte1 (byte1 s a0) a1) a2) a3 = byte1 (byte1 (byte1 (byte1 s (a0 ^^^ d0)) (a1 ^^^ d1)) (a2 ^^^ d2)) (a3 ^^^ d3) := h
  rw [x0] at e1 e2 e3 e4
  rw [Nat.xor_self, Nat.zero_xor] at e1
  rw [h', Nat.xor_self] at e4
  generalize byte1 s a0 = s1 at *
  generalize byte1 s (a0 ^^^ d0) = r1 at *
  generalize byte1 s1 a1 = s2 at *
  generalize byte1 r1 (a1 ^^^ d1) = r2 at *
  generalize byte1 s2 a2 = s3 at *
  generalize byte1 r2 (a2 ^^^ d2) = r3 at *
  have l1 := xor_lt t1 u1
  have l2 := xor_lt t2 u2
  have l3 := xor_lt t3 u3
  generalize s1 ^^^ r1 = D1 at *
  generalize s2 ^^^ r2 = D2 at *
  generalize s3 ^^^ r3 = D3 at *
  have k4 : D3 = d3 := eq_of_xor (bitk_zero (xor_lt l3 (by omega)) 8 e4.symm)
  have back : ∀ {x y d : Nat}, x ^^^ d = y → x = y ^^^ d := fun {x y d} hh => by rw [← hh, Nat.xor_assoc, Nat.xor_self, Nat.xor_zero]
  have k3 := back (bit8_of (xor_lt l2 (by omega)) (by omega) e3.symm)
  have b3 : D3 * 256 ^^^ d2 < 65536 := Nat.xor_lt_two_pow (n := 16) (by omega) (by omega)
  have k2 := back (bit8_of (xor_lt l1 (by omega)) (by omega) e2.symm)
  have b2 : D2 * 256 ^^^ d1 < 16777216 := Nat.xor_lt_two_pow (n := 24) (by omega) (by omega)
  have k1 := bit8_of (by omega) (by omega) e1.symm
  have z1 : D1 = 0 := by omega
  have zd0 : d0 = 0 := by omega
  have z2 := eq_of_xor (k2.symm.trans z1)
  have z2' : D2 = 0 ∧ d1 = 0 := by omega
  have z3 := eq_of_xor (k3.symm.trans z2'.1)
  have z3' : D3 = 0 ∧ d2 = 0 := by omega
  exact ⟨zd0, z2'.2, z3'.2, by omega⟩
/-- what the loop over four bytes makes of a text -/
def dif (by' : Nat) (j : Nat) : Nat := by' / 256 ^ j % 256
def upd (l : List Nat) (K by' : Nat) : Nat → List Nat
  | 0 => l
  | j + 1 => (upd l K by' j).set (K + j) ((upd l K by' j).getD (K + j) 0 ^^^ dif by' j)

theorem upd_length (l : List Nat) (K by' j : Nat) : (upd l K by' j).length = l.length := by
  induction j with
  | zero => rfl
  | succ j ih => show ((upd l K by' j).set _ _).length = _; rw [List.length_set, ih]

theorem dif_lt (by' j : Nat) : dif by' j < 256 := Nat.mod_lt _ (by omega)

theorem upd_lt (l : List Nat) (K by' : Nat) (h : ∀ c ∈ l, c < 256) (j : Nat) : ∀ c ∈ upd l K by' j, c < 256 := by
  induction j with
  | zero => exact h
  | succ j ih =>
    intro c hc
    rcases List.mem_or_eq_of_mem_set hc with h1 | h1
    · exact ih c h1
    · have h2 : (upd l K by' j).getD (K + j) 0 < 256 := by
        by_cases hk : K + j < (upd l K by' j).length
        · have : (upd l K by' j).getD (K + j) 0 = (upd l K by' j)[K + j] := by simp [List.getD, hk]
          rw [this]; exact ih _ (List.getElem_mem hk)
        · have : (upd l K by' j).getD (K + j) 0 = 0 := by simp [List.getD, List.getElem?_eq_none (by omega : (upd l K by' j).length ≤ K + j)]
          omega
      rw [h1]; exact Nat.xor_lt_two_pow (n := 8) h2 (dif_lt _ _)

theorem set_at (p : List Nat) (a x : Nat) (q : List Nat) (n : Nat) (h : n = p.length) : (p ++ a :: q).set n x = p ++ x :: q := by
  subst h; simp
theorem get_at (p : List Nat) (a : Nat) (q : List Nat) (n : Nat) (h : n = p.length) : (p ++ a :: q).getD n 0 = a := by
  subst h; simp [List.getD]

theorem split4 (l : List Nat) (K : Nat) (h : K + 4 ≤ l.length) : ∃ p a0 a1 a2 a3 q, l = p ++ a0 :: a1 :: a2 :: a3 :: q ∧ p.length = K := by
  refine ⟨l.take K, l[K], l[K + 1], l[K + 2], l[K + 3], l.drop (K + 4), ?_, by simp; omega⟩
  have h0 : l.drop K = l[K] :: l.drop (K + 1) := List.drop_eq_getElem_cons (by omega)
  have h1 : l.drop (K + 1) = l[K + 1] :: l.drop (K + 2) := List.drop_eq_getElem_cons (by omega)
  have h2 : l.drop (K + 2) = l[K + 2] :: l.drop (K + 3) := List.drop_eq_getElem_cons (by omega)
  have h3 : l.drop (K + 3) = l[K + 3] :: l.drop (K + 4) := List.drop_eq_getElem_cons (by omega)
  rw [← h3, ← h2, ← h1, ← h0, List.take_append_drop]

theorem upd_split (p : List Nat) (a0 a1 a2 a3 : Nat) (q : List Nat) (by' : Nat) :
    upd (p ++ a0 :: a1 :: a2 :: a3 :: q) p.length by' 4 = p ++ (a0 ^^^ dif by' 0) :: (a1 ^^^ dif by' 1) :: (a2 ^^^ dif by' 2) :: (a3 ^^^ dif by' 3) :: q := by
  have e1 : upd (p ++ a0 :: a1 :: a2 :: a3 :: q) p.length by' 1 = (p ++ [a0 ^^^ dif by' 0]) ++ a1 :: a2 :: a3 :: q := by
    show (p ++ a0 :: a1 :: a2 :: a3 :: q).set (p.length + 0) _ = _
    rw [set_at _ _ _ _ _ (by omega)]
    show p ++ ((p ++ a0 :: a1 :: a2 :: a3 :: q).getD (p.length + 0) 0 ^^^ _) :: _ = _
    rw [get_at _ _ _ _ (by omega)]; simp
  have e2 : upd (p ++ a0 :: a1 :: a2 :: a3 :: q) p.length by' 2 = (p ++ [a0 ^^^ dif by' 0, a1 ^^^ dif by' 1]) ++ a2 :: a3 :: q := by
    show (upd _ _ _ 1).set (p.length + 1) ((upd _ _ _ 1).getD (p.length + 1) 0 ^^^ _) = _
    rw [e1, set_at _ _ _ _ _ (by simp), get_at _ _ _ _ (by simp)]; simp
  have e3 : upd (p ++ a0 :: a1 :: a2 :: a3 :: q) p.length by' 3 = (p ++ [a0 ^^^ dif by' 0, a1 ^^^ dif by' 1, a2 ^^^ dif by' 2]) ++ a3 :: q := by
    show (upd _ _ _ 2).set (p.length + 2) ((upd _ _ _ 2).getD (p.length + 2) 0 ^^^ _) = _
    rw [e2, set_at _ _ _ _ _ (by simp), get_at _ _ _ _ (by simp)]; simp
  show (upd _ _ _ 3).set (p.length + 3) ((upd _ _ _ 3).getD (p.length + 3) 0 ^^^ _) = _
  rw [e3, set_at _ _ _ _ _ (by simp), get_at _ _ _ _ (by simp)]; simp

theorem dif_zero {by' : Nat} (h : by' < 4294967296) (h0 : dif by' 0 = 0) (h1 : dif by' 1 = 0) (h2 : dif by' 2 = 0) (h3 : dif by' 3 = 0) : by' = 0 := by
  unfold dif at h0 h1 h2 h3
  omega

theorem upd_unlike {l : List Nat} {K by' : Nat} (hl : ∀ c ∈ l, c < 256) (hK : K + 4 ≤ l.length) (hb : by' < 4294967296) (h0 : by' ≠ 0) : more 0 l ≠ more 0 (upd l K by' 4) := by
  intro h
  obtain ⟨p, a0, a1, a2, a3, q, rfl, rfl⟩ := split4 l K hK
  rw [upd_split] at h
  have mem : ∀ c, c = a0 ∨ c = a1 ∨ c = a2 ∨ c = a3 ∨ c ∈ q ∨ c ∈ p → c < 256 := by
    intro c hc
    apply hl
    simp only [List.mem_append, List.mem_cons]
    rcases hc with h | h | h | h | h | h <;> simp [h]
  have l8 : ∀ {x y : Nat}, x < 256 → y < 256 → x ^^^ y < 256 := fun hx hy => Nat.xor_lt_two_pow (n := 8) hx hy
  have hrun : run (turn 0) (p ++ a0 :: a1 :: a2 :: a3 :: q) = run (turn 0) (p ++ (a0 ^^^ dif by' 0) :: (a1 ^^^ dif by' 1) :: (a2 ^^^ dif by' 2) :: (a3 ^^^ dif by' 3) :: q) := by
    have h2 : turn (more 0 (p ++ a0 :: a1 :: a2 :: a3 :: q)) = turn (more 0 (p ++ (a0 ^^^ dif by' 0) :: (a1 ^^^ dif by' 1) :: (a2 ^^^ dif by' 2) :: (a3 ^^^ dif by' 3) :: q)) := by rw [h]
    unfold more at h2
    rw [turn_turn, turn_turn] at h2
    exact h2
  have ht : turn 0 < 4294967296 := turn_lt (by omega)
  generalize turn 0 = t at hrun ht
  rw [run_append, run_append] at hrun
  have hs : run t p < 4294967296 := run_lt ht (fun c hc => mem c (by simp [hc]))
  generalize run t p = s at hrun hs
  have e : ∀ (b0 b1 b2 b3 : Nat), run s (b0 :: b1 :: b2 :: b3 :: q) = run (run s [b0, b1, b2, b3]) q := fun b0 b1 b2 b3 => by rw [← run_append]; rfl
  rw [e, e] at hrun
  have m0 := mem a0 (by simp)
  have m1 := mem a1 (by simp)
  have m2 := mem a2 (by simp)
  have m3 := mem a3 (by simp)
  have lt4 : ∀ {b0 b1 b2 b3 : Nat}, b0 < 256 → b1 < 256 → b2 < 256 → b3 < 256 → run s [b0, b1, b2, b3] < 4294967296 := fun c0 c1 c2 c3 => byte1_lt (byte1_lt (byte1_lt (byte1_lt hs c0) c1) c2) c3
  have h4 := run_inj (lt4 m0 m1 m2 m3) (lt4 (l8 m0 (dif_lt _ _)) (l8 m1 (dif_lt _ _)) (l8 m2 (dif_lt _ _)) (l8 m3 (dif_lt _ _))) (fun c hc => mem c (by simp [hc])) hrun
  obtain ⟨z0, z1, z2, z3⟩ := four hs m0 m1 m2 m3 (dif_lt _ _) (dif_lt _ _) (dif_lt _ _) (dif_lt _ _) h4
  exact h0 (dif_zero hb z0 z1 z2 z3)
end Go.Proofs.Ytghajamcjcflaaa.crcm
