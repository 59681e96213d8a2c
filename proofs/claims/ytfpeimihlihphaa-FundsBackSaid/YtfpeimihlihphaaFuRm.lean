/- Room and Hold, as mathematics. -/
import Derived.Test.YtfpeimihlihphaaFuI
namespace Go.Proofs.Ytfpeimihlihphaa.fnd
open Go.RowKit mem tre
set_option linter.unusedVariables false

theorem hold_range (A : List Ac) (x : Int) : ∀ l ls : List Int, holdR A x l ls = 0 ∨ holdR A x l ls = 9 ∨ holdR A x l ls = 18 := by
  intro l
  induction l with
  | nil => intro ls; exact .inl rfl
  | cons n r ih =>
    intro ls
    cases ls with
    | nil => exact .inl rfl
    | cons m rs =>
      unfold holdR
      split
      · exact .inr (.inl rfl)
      · split
        · exact .inr (.inr rfl)
        · exact ih rs
theorem roomR_iff (A : List Ac) {x : Int} (hx : 1 ≤ x) : ∀ (l ls : List Int) (r : Int), x ≤ roomR A l ls r ↔ x ≤ r ∧ holdR A x l ls = 0 := by
  intro l
  induction l with
  | nil => intro ls r; exact ⟨fun h => ⟨h, rfl⟩, fun h => h.1⟩
  | cons n t ih =>
    intro ls r
    cases ls with
    | nil => exact ⟨fun h => ⟨h, rfl⟩, fun h => h.1⟩
    | cons m rs =>
      show x ≤ roomR A t rs (stepR r (nd A n) m) ↔ _
      rw [ih rs]
      have e : holdR A x (n :: t) (m :: rs) = if left (nd A n) < x then 9 else if 0 ≤ m ∧ m < (nd A n).u + (nd A n).h + x then 18 else holdR A x t rs := rfl
      rw [e]
      unfold stepR
      generalize left (nd A n) = L
      generalize (nd A n).u = U
      generalize (nd A n).h = H
      generalize holdR A x t rs = Z
      by_cases h1 : L < x
      · rw [if_pos h1]
        constructor
        · intro ⟨q, _⟩; split at q <;> omega
        · intro ⟨_, q⟩; omega
      · rw [if_neg h1]
        by_cases h2 : 0 ≤ m
        · rw [if_pos h2]
          by_cases h3 : m < U + H + x
          · rw [if_pos ⟨h2, h3⟩]; omega
          · rw [if_neg (fun q => h3 q.2)]; omega
        · rw [if_neg h2, if_neg (fun q => h2 q.1)]; omega
theorem roomR_bd {A : List Ac} (h : Bok A) : ∀ (l ls : List Int) (r : Int), 0 ≤ r → 0 ≤ roomR A l ls r ∧ roomR A l ls r ≤ r := by
  intro l
  induction l with
  | nil => intro ls r hr; exact ⟨hr, Int.le_refl _⟩
  | cons n t ih =>
    intro ls r hr
    cases ls with
    | nil => exact ⟨hr, Int.le_refl _⟩
    | cons m rs =>
      show 0 ≤ roomR A t rs (stepR r (nd A n) m) ∧ roomR A t rs (stepR r (nd A n) m) ≤ r
      have hl : 0 ≤ left (nd A n) := (h.ok n.toNat).2.2
      have hs : 0 ≤ stepR r (nd A n) m ∧ stepR r (nd A n) m ≤ r := by
        unfold stepR
        generalize left (nd A n) = L at *
        split <;> omega
      have := ih rs (stepR r (nd A n) m) hs.1
      omega
/-- as much as there is room for is held, one more isn't -/
def RoomEnd (n E1 E2 : Int) : Prop := 0 ≤ n ∧ n ≤ 9007199254740992 ∧ E1 ≠ 0 ∧ (E1 = 1 → n = 9007199254740992) ∧ (1 ≤ n → E2 = 0)
theorem room_end {A : List Ac} (h : Bok A) {l ls : List Int} (hok : RoomOk l ls) : RoomEnd (roomN A l ls) (holdE A l ls (roomN A l ls + 1)) (holdE A l ls (roomN A l ls)) := by
  have e : roomN A l ls = roomR A l ls 9007199254740992 := by unfold roomN; rw [if_pos hok]
  have hb := roomR_bd h l ls 9007199254740992 (by omega)
  rw [← e] at hb
  have hi := fun x (hx : 1 ≤ x) => roomR_iff A hx l ls 9007199254740992
  rw [← e] at hi
  generalize roomN A l ls = n at *
  refine ⟨hb.1, hb.2, ?_, ?_, ?_⟩
  · unfold holdE
    by_cases hx : AmtOk (n + 1)
    · rw [if_pos ⟨hok, hx⟩]
      intro q
      have := (hi (n + 1) hx.1).2 ⟨hx.2, q⟩
      omega
    · rw [if_neg (fun q => hx q.2)]; omega
  · unfold holdE
    by_cases hx : AmtOk (n + 1)
    · rw [if_pos ⟨hok, hx⟩]
      intro q
      rcases hold_range A (n + 1) l ls with r | r | r <;> omega
    · intro _
      unfold AmtOk at hx
      omega
  · intro h1
    unfold holdE
    rw [if_pos ⟨hok, h1, hb.2⟩]
    exact ((hi n h1).1 (Int.le_refl _)).2
end Go.Proofs.Ytfpeimihlihphaa.fnd
