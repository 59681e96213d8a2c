/- The sum of 32 bits as plain mathematics: one bit's step, a byte's step, a run over bytes. Nothing of the program is imported. -/
import Derived.Laws.BitsAllLaws
namespace Go.Proofs.Ytcbpgplmphgcgaa.crcm

/-- one bit: moved right; the polynomial, if a one fell out -/
def bit1 (n : Nat) : Nat := if n % 2 = 1 then (n / 2) ^^^ 3988292384 else n / 2

def bitk : Nat → Nat → Nat
  | 0, n => n
  | k + 1, n => bit1 (bitk k n)

/-- a byte -/
def byte1 (n c : Nat) : Nat := bitk 8 (n ^^^ c)

/-- a run over bytes, from a number on -/
def run (n : Nat) (l : List Nat) : Nat := l.foldl byte1 n

/-- all bits turned -/
def turn (n : Nat) : Nat := 4294967295 ^^^ n

def more (s : Nat) (l : List Nat) : Nat := turn (run (turn s) l)

theorem xor_lt {a b : Nat} (ha : a < 4294967296) (hb : b < 4294967296) : a ^^^ b < 4294967296 :=
  by have h : a ^^^ b < 2 ^ 32 := Nat.xor_lt_two_pow (by omega) (by omega)
     omega

theorem turn_lt {a : Nat} (ha : a < 4294967296) : turn a < 4294967296 := by
  unfold turn; exact xor_lt (by omega) ha

theorem xor_xor (m a : Nat) : m ^^^ (m ^^^ a) = a := by
  rw [← Nat.xor_assoc, Nat.xor_self, Nat.zero_xor]
theorem turn_eq (a : Nat) : turn a = 4294967295 ^^^ a := rfl
theorem turn_turn (a : Nat) : turn (turn a) = a := by
  rw [turn_eq, turn_eq]; generalize 4294967295 = m; exact xor_xor m a

theorem bit1_lt {n : Nat} (h : n < 4294967296) : bit1 n < 4294967296 := by
  unfold bit1; split
  · exact xor_lt (by omega) (by omega)
  · omega

theorem bitk_lt {n : Nat} (h : n < 4294967296) (k : Nat) : bitk k n < 4294967296 := by
  induction k with
  | zero => exact h
  | succ k ih => exact bit1_lt ih

theorem byte1_lt {n c : Nat} (h : n < 4294967296) (hc : c < 256) : byte1 n c < 4294967296 :=
  bitk_lt (xor_lt h (by omega)) 8

theorem run_lt {l : List Nat} : ∀ {n : Nat}, n < 4294967296 → (∀ c ∈ l, c < 256) → run n l < 4294967296 := by
  induction l with
  | nil => intro n h _; exact h
  | cons c l ih => intro n h hl; exact ih (byte1_lt h (hl c (by simp))) (fun d hd => hl d (by simp [hd]))

theorem run_append (n : Nat) (l r : List Nat) : run n (l ++ r) = run (run n l) r := by
  unfold run; exact List.foldl_append

theorem run_snoc (n : Nat) (l : List Nat) (c : Nat) : run n (l ++ [c]) = byte1 (run n l) c := by
  rw [run_append]; rfl

theorem more_append (s : Nat) (l r : List Nat) : more (more s l) r = more s (l ++ r) := by
  unfold more; rw [turn_turn, run_append]

theorem more_nil (s : Nat) : more s [] = s := turn_turn s

theorem more_lt {s : Nat} {l : List Nat} (h : s < 4294967296) (hl : ∀ c ∈ l, c < 256) : more s l < 4294967296 :=
  turn_lt (run_lt (turn_lt h) hl)

/-! in the walk's own spelling -/
theorem and1_of_odd {m : Nat} (hm : m < 4294967296) (h : m % 2 = 1) : bits .and .u32 (m : Int) 1 = 1 := by
  have := u32_and_nat m 1 hm (by omega)
  rw [show ((1 : Nat) : Int) = 1 from rfl] at this
  rw [this, Nat.and_one_is_mod, h]; rfl
theorem and1_of_even {m : Nat} (hm : m < 4294967296) (h : ¬ m % 2 = 1) : bits .and .u32 (m : Int) 1 = 0 := by
  have := u32_and_nat m 1 hm (by omega)
  rw [show ((1 : Nat) : Int) = 1 from rfl] at this
  rw [this, Nat.and_one_is_mod]; omega
theorem xor_poly {m : Nat} (hm : m < 4294967296) (h : m % 2 = 1) : bits .xor .u32 ((m : Int) / 2) 3988292384 = ((bit1 m : Nat) : Int) := by
  have := u32_xor_nat (m / 2) 3988292384 (by omega) (by omega)
  unfold bit1; rw [if_pos h, ← this]; rfl
theorem half_of_even {m : Nat} (h : ¬ m % 2 = 1) : (m : Int) / 2 = ((bit1 m : Nat) : Int) := by
  unfold bit1; rw [if_neg h]; rfl
theorem xor_cast {m c : Nat} (hm : m < 4294967296) (hc : c < 4294967296) : bits .xor .u32 (m : Int) (c : Int) = ((m ^^^ c : Nat) : Int) := u32_xor_nat m c hm hc
theorem u32_max : IntKind.u32.max = ((4294967295 : Nat) : Int) := by decide
theorem turn_cast {m : Nat} (hm : m < 4294967296) : bits .xor .u32 IntKind.u32.max (m : Int) = ((turn m : Nat) : Int) := by
  rw [u32_max]
  have := u32_xor_nat 4294967295 m (by omega) hm
  rw [turn_eq, ← this]
end Go.Proofs.Ytcbpgplmphgcgaa.crcm
