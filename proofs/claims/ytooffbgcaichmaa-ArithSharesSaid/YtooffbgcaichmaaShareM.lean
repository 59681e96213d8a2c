/- Parts of a total by weights, as plain mathematics: what is over goes to the first weights, one each. -/
import Derived.Test.YtooffbgcaichmaaPart0
namespace Go.Proofs.Ytooffbgcaichmaa.bigw
open Go.RowKit mem bigm intm
set_option linter.unusedVariables false

section
variable (t S : Int) (w : Nat → Int)

def bse (k : Nat) : Int := pq t (w k) S
def psm : Nat → Int
  | 0 => 0
  | k + 1 => psm k + bse t S w k
/-- how many weights of the first k are above nought -/
def cnt : Nat → Int
  | 0 => 0
  | k + 1 => cnt k + if 0 < w k then 1 else 0
def wsm : Nat → Int
  | 0 => 0
  | k + 1 => wsm k + w k
/-- what is left over ahead of the k-th weight, L in the beginning -/
def lft (L : Int) : Nat → Int
  | 0 => L
  | k + 1 => if 0 < lft L k ∧ 0 < w k then lft L k - 1 else lft L k
def fin (L : Int) (k : Nat) : Int := bse t S w k + if 0 < lft w L k ∧ 0 < w k then 1 else 0
def fsm (L : Int) : Nat → Int
  | 0 => 0
  | k + 1 => fsm L k + fin t S w L k
end

theorem wsm_nonneg {w : Nat → Int} (h : ∀ k, 0 ≤ w k) (k : Nat) : 0 ≤ wsm w k := by
  induction k with
  | zero => exact Int.le_refl _
  | succ k ih => have := h k; show 0 ≤ wsm w k + w k; omega
theorem wsm_mono {w : Nat → Int} (h : ∀ k, 0 ≤ w k) {j k : Nat} (hjk : j ≤ k) : wsm w j ≤ wsm w k := by
  induction k with
  | zero => obtain rfl : j = 0 := by omega
            exact Int.le_refl _
  | succ k ih =>
    by_cases e : j = k + 1
    · subst e; exact Int.le_refl _
    · have := ih (by omega); have := h k; show _ ≤ wsm w k + w k; omega
theorem cnt_mono {w : Nat → Int} {j k : Nat} (hjk : j ≤ k) : cnt w j ≤ cnt w k := by
  induction k with
  | zero => obtain rfl : j = 0 := by omega
            exact Int.le_refl _
  | succ k ih =>
    by_cases e : j = k + 1
    · subst e; exact Int.le_refl _
    · have := ih (by omega); show _ ≤ cnt w k + if 0 < w k then 1 else 0; split <;> omega
theorem cnt_nonneg (w : Nat → Int) (k : Nat) : 0 ≤ cnt w k := cnt_mono (w := w) (Nat.zero_le k)

/-- what the weights of a total are -/
structure Weights (t S : Int) (w : Nat → Int) (n : Nat) : Prop where
  pos : ∀ k, 0 ≤ w k
  t0 : 0 ≤ t
  t1 : t ≤ 9223372036854775807
  s0 : 0 < S
  s1 : S ≤ 9223372036854775807
  sum : wsm w n = S

theorem Weights.le {t S : Int} {w : Nat → Int} {n : Nat} (h : Weights t S w n) {k : Nat} (hk : k < n) : w k ≤ S := by
  have h1 := wsm_mono h.pos (show k + 1 ≤ n from hk)
  have h2 := wsm_nonneg h.pos k
  have h3 : wsm w (k + 1) = wsm w k + w k := rfl
  have := h.sum
  omega

theorem Weights.base {t S : Int} {w : Nat → Int} {n : Nat} (h : Weights t S w n) {k : Nat} (hk : k < n) :
    bse t S w k = t * w k / S ∧ 0 ≤ bse t S w k ∧ bse t S w k ≤ t ∧ pk t (w k) S = true ∧ S * bse t S w k + t * w k % S = t * w k ∧ 0 ≤ t * w k % S ∧ (0 < w k → t * w k % S < S) ∧ (¬ 0 < w k → t * w k % S = 0) := by
  have h0 := h.t0
  have h1 := h.s0
  have h2 := h.pos k
  have h3 := h.le hk
  have h4 : 0 ≤ t * w k := Int.mul_nonneg h0 h2
  have h5 : 0 ≤ t * w k / S := Int.ediv_nonneg h4 (by omega)
  have h6 : t * w k / S ≤ t := by
    apply Int.ediv_le_of_le_mul h1
    exact Int.mul_le_mul_of_nonneg_left h3 h0
  have hp : 0 ≤ t ∧ 0 ≤ w k ∧ 1 ≤ S ∧ t * w k / S ≤ 9223372036854775807 := ⟨h0, h2, by omega, by have := h.t1; omega⟩
  obtain ⟨p1, p2, p3⟩ := part_yes hp
  have hb : bse t S w k = t * w k / S := p1
  rw [hb]
  refine ⟨rfl, h5, h6, p3, Int.mul_ediv_add_emod _ _, Int.emod_nonneg _ (by omega), fun _ => Int.emod_lt_of_pos _ h1, fun hn => ?_⟩
  have : w k = 0 := by omega
  rw [this, Int.mul_zero, Int.zero_emod]

theorem Weights.psm {t S : Int} {w : Nat → Int} {n : Nat} (h : Weights t S w n) : ∀ k, k ≤ n → 0 ≤ psm t S w k ∧ S * psm t S w k ≤ t * wsm w k ∧ t * wsm w k ≤ S * psm t S w k + S * cnt w k := by
  intro k
  induction k with
  | zero => intro _; simp [bigw.psm, wsm, cnt]
  | succ k ih =>
    intro hk
    obtain ⟨a, b, c⟩ := ih (by omega)
    obtain ⟨_, b0, _, _, e, r0, r1, r2⟩ := h.base (show k < n from hk)
    have s0 := h.s0
    have e1 : bigw.psm t S w (k + 1) = bigw.psm t S w k + bse t S w k := rfl
    have e2 : wsm w (k + 1) = wsm w k + w k := rfl
    have e3 : cnt w (k + 1) = cnt w k + if 0 < w k then 1 else 0 := rfl
    rw [e1, e2, e3, Int.mul_add, Int.mul_add, Int.mul_add]
    by_cases hw : 0 < w k
    · rw [if_pos hw]; have := r1 hw; refine ⟨by omega, by omega, by omega⟩
    · rw [if_neg hw]; have := r2 hw; refine ⟨by omega, by omega, by omega⟩

theorem le_of_mul {S a b : Int} (hS : 0 < S) (h : S * a ≤ S * b) : a ≤ b := Int.le_of_mul_le_mul_left h hS

theorem Weights.over {t S : Int} {w : Nat → Int} {n : Nat} (h : Weights t S w n) : 0 ≤ t - bigw.psm t S w n ∧ t - bigw.psm t S w n ≤ cnt w n := by
  obtain ⟨a, b, c⟩ := h.psm n (Nat.le_refl _)
  rw [h.sum] at b c
  have s0 := h.s0
  have h1 : S * bigw.psm t S w n ≤ S * t := by rw [Int.mul_comm S t]; exact b
  have h2 : S * t ≤ S * (bigw.psm t S w n + cnt w n) := by rw [Int.mul_add, Int.mul_comm S t]; exact c
  have h3 := le_of_mul s0 h1
  have h4 := le_of_mul s0 h2
  exact ⟨by omega, by omega⟩

theorem psm_mono {t S : Int} {w : Nat → Int} {n : Nat} (h : Weights t S w n) {j k : Nat} (hjk : j ≤ k) (hk : k ≤ n) : bigw.psm t S w j ≤ bigw.psm t S w k := by
  induction k with
  | zero => obtain rfl : j = 0 := by omega
            exact Int.le_refl _
  | succ k ih =>
    by_cases e : j = k + 1
    · subst e; exact Int.le_refl _
    · have h1 := ih (by omega) (by omega)
      have h2 := (h.base (show k < n from hk)).2.1
      show _ ≤ bigw.psm t S w k + bse t S w k; omega

theorem lft_succ (w : Nat → Int) (L : Int) (k : Nat) : lft w L (k + 1) = if 0 < lft w L k ∧ 0 < w k then lft w L k - 1 else lft w L k := rfl
theorem lft_nonneg {w : Nat → Int} {L : Int} (hL : 0 ≤ L) (k : Nat) : 0 ≤ lft w L k := by
  induction k with
  | zero => exact hL
  | succ k ih => rw [lft_succ]; split <;> omega
theorem lft_le {w : Nat → Int} {L : Int} (hL : 0 ≤ L) (k : Nat) : lft w L k ≤ L := by
  induction k with
  | zero => exact Int.le_refl _
  | succ k ih => rw [lft_succ]; split <;> omega
theorem lft_cnt {w : Nat → Int} {L : Int} {n : Nat} (hL : L ≤ cnt w n) : ∀ k, k ≤ n → lft w L k ≤ cnt w n - cnt w k := by
  intro k
  induction k with
  | zero => intro _; show L ≤ cnt w n - 0; omega
  | succ k ih =>
    intro hk
    have h1 := ih (by omega)
    have h2 := cnt_mono (w := w) (show k + 1 ≤ n from hk)
    have e : cnt w (k + 1) = cnt w k + if 0 < w k then 1 else 0 := rfl
    rw [e] at h2 ⊢
    show (if 0 < lft w L k ∧ 0 < w k then lft w L k - 1 else lft w L k) ≤ _
    by_cases hw : 0 < w k
    · rw [if_pos hw] at h2 ⊢
      split <;> omega
    · rw [if_neg hw] at h2 ⊢
      rw [if_neg (fun h => hw h.2)]; omega

theorem fsm_eq (t S : Int) (w : Nat → Int) (L : Int) (k : Nat) : fsm t S w L k = bigw.psm t S w k + (L - lft w L k) := by
  induction k with
  | zero => show (0 : Int) = 0 + (L - L); omega
  | succ k ih =>
    show fsm t S w L k + (bse t S w k + if 0 < lft w L k ∧ 0 < w k then 1 else 0) = bigw.psm t S w k + bse t S w k + (L - if 0 < lft w L k ∧ 0 < w k then lft w L k - 1 else lft w L k)
    rw [ih]
    split <;> omega

/-- all is given away -/
theorem Weights.all {t S : Int} {w : Nat → Int} {n : Nat} (h : Weights t S w n) : lft w (t - bigw.psm t S w n) n = 0 ∧ fsm t S w (t - bigw.psm t S w n) n = t := by
  obtain ⟨h1, h2⟩ := h.over
  have h3 := lft_cnt h2 n (Nat.le_refl _)
  have h4 := lft_nonneg (w := w) h1 n
  have h5 : lft w (t - bigw.psm t S w n) n = 0 := by omega
  exact ⟨h5, by rw [fsm_eq, h5]; omega⟩

/-- what is given is no more than the total -/
theorem Weights.room {t S : Int} {w : Nat → Int} {n : Nat} (h : Weights t S w n) {k : Nat} (hk : k < n) (hl : 0 < lft w (t - bigw.psm t S w n) k) : bse t S w k + 1 ≤ t := by
  have h1 := lft_le (w := w) h.over.1 k
  have h2 := psm_mono h (show k + 1 ≤ n from hk) (Nat.le_refl _)
  have h3 := (h.psm k (by omega)).1
  have h4 : bigw.psm t S w (k + 1) = bigw.psm t S w k + bse t S w k := rfl
  omega

theorem fin_step {t S : Int} {w : Nat → Int} {L : Int} {k : Nat} (h : 0 < lft w L k ∧ 0 < w k) : fin t S w L k = bse t S w k + 1 ∧ lft w L (k + 1) = lft w L k - 1 := by
  constructor
  · unfold fin; rw [if_pos h]
  · rw [lft_succ, if_pos h]
theorem fin_stay {t S : Int} {w : Nat → Int} {L : Int} {k : Nat} (h : ¬ (0 < lft w L k ∧ 0 < w k)) : fin t S w L k = bse t S w k ∧ lft w L (k + 1) = lft w L k := by
  constructor
  · unfold fin; rw [if_neg h]; omega
  · rw [lft_succ, if_neg h]
theorem lft_anti (w : Nat → Int) (L : Int) {j k : Nat} (h : j ≤ k) : lft w L k ≤ lft w L j := by
  induction k with
  | zero => obtain rfl : j = 0 := by omega
            exact Int.le_refl _
  | succ k ih =>
    by_cases e : j = k + 1
    · subst e; exact Int.le_refl _
    · have := ih (by omega)
      rw [lft_succ]
      split <;> omega
/-- where nothing is left all stays -/
theorem fin_rest {t S : Int} {w : Nat → Int} {L : Int} {j k : Nat} (h : lft w L j ≤ 0) (hk : j ≤ k) : fin t S w L k = bse t S w k :=
  (fin_stay (fun hh => by have := lft_anti w L hk; omega)).1

theorem Weights.fin_in {t S : Int} {w : Nat → Int} {n : Nat} (h : Weights t S w n) {k : Nat} (hk : k < n) : 0 ≤ fin t S w (t - bigw.psm t S w n) k ∧ fin t S w (t - bigw.psm t S w n) k ≤ t := by
  have hb := h.base hk
  by_cases hl : 0 < lft w (t - bigw.psm t S w n) k ∧ 0 < w k
  · rw [(fin_step hl).1]
    have := h.room hk hl.1
    exact ⟨by omega, this⟩
  · rw [(fin_stay hl).1]; exact ⟨hb.2.1, hb.2.2.1⟩

theorem wsm_take (l : List Int) : ∀ k, k ≤ l.length → (l.take k).sum = wsm (fun i => l.getD i 0) k := by
  intro k
  induction k with
  | zero => intro _; simp [wsm]
  | succ k ih => intro hk; rw [sum_take_succ l k hk, ih (by omega)]; rfl
theorem wsm_all (l : List Int) : wsm (fun i => l.getD i 0) l.length = l.sum := by
  rw [← wsm_take l _ (Nat.le_refl _), List.take_length]

theorem fsm_list (t S : Int) (w : Nat → Int) (L : Int) (n : Nat) : ((List.range n).map (fin t S w L)).sum = fsm t S w L n := by
  induction n with
  | zero => rfl
  | succ n ih => rw [List.range_succ, List.map_append, List.sum_append, ih]; simp [fsm]
end Go.Proofs.Ytooffbgcaichmaa.bigw
