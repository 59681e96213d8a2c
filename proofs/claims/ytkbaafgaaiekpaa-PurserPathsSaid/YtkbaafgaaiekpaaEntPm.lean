/- Entries: Make of a hold, a release, a commit, a refund: all that it answers. -/
import Derived.Test.YtkbaafgaaiekpaaEntY
import Derived.Test.YtkbaafgaaiekpaaEntN
import Derived.Test.YtkbaafgaaiekpaaEntOm
namespace Go.Proofs.Ytkbaafgaaiekpaa.entw
open Go.RowKit mem entm
set_option linter.unusedVariables false

/-- what may be made of -/
def Fine (m : Int) (path : List Int) : Prop := amB m ∧ pathB path = true ∧ ∀ n ∈ path, 1 ≤ n ∧ n ≤ 32
open Classical in
noncomputable def mErr (kind m g : Int) (path : List Int) : Int := if Fine m path ∧ okG kind g then 0 else 1
def HasL (kind m g : Int) (path : List Int) (ls : List Lg) : Prop := ls.Perm (rawL kind m g path) ∧ Sorted ls ∧ (∀ l ∈ ls, InL l ∧ amtB l.a = true) ∧ 2 ≤ ls.length ∧ ls.length ≤ 64
def MakeAt (kind m g : Int) (path : List Int) (w : World) (e : Ending) (w' : World) : Prop := Only (fun _ => False) w w' ∧
  ((mErr kind m g path = 1 ∧ e = .returned (.tuple #[.agg #[.int .i64 0, .slice none 0 0], .int .i64 1])) ∨
   (mErr kind m g path = 0 ∧ ∃ b cap ls, HasL kind m g path ls ∧ ReadsL w' (some ⟨b, 0, none⟩) ls.length ls ∧ e = .returned (.tuple #[.agg #[.int .i64 kind, .slice (some ⟨b, 0, none⟩) ls.length cap], .int .i64 0])))
theorem makek_any (kind m g : Int) (hk : isK kind) (hg : InI g) (a : Option Addr) (len cap : Nat) (path : List Int) (w : World) (h : ReadsI w a len path) (hlc : len ≤ cap) (hcm : cap ≤ 9223372036854775807) :
    Calls Try.prog 55 #[.int .i64 kind, .int .i64 m, .slice a len cap, .int .i64 g] w (MakeAt kind m g path w) := by
  have hkb : kindB kind = true := by unfold kindB isK at *; simp; omega
  rcases mk_cases kind m path with hno | ⟨_, ha, hp⟩
  · refine (make_no kind m g a len cap path w h hlc hcm hno).mono ?_
    rintro e w' ⟨rfl, ho⟩
    have h1 : mkNo kind m path = 1 := by
      unfold mkNo at hno ⊢
      rw [if_neg (by rw [hkb]; simp)] at hno ⊢
      split at hno
      · rename_i c; rw [if_pos c]
      · exact absurd rfl hno
    refine ⟨ho, .inl ⟨?_, by rw [h1]⟩⟩
    unfold mErr
    rw [if_neg]
    rintro ⟨⟨f1, f2, _⟩, _⟩
    unfold mkNo at h1
    rw [if_neg (by rw [hkb]; simp), if_neg (by rw [f2]; simp [f1])] at h1
    cases h1
  · refine (make_yes kind m g hkb ha hg a len cap path hp w h hlc hcm).mono ?_
    rintro e w' ⟨b, cp, ls, h1, h2, h3, h4, h5, h6⟩
    have hok : PathOK path := by unfold pathB at hp; exact of_decide_eq_true hp
    have hc := raw_chk hk ha.1 ha.2 hok.2.2 ⟨hok.1, by have := hok.2.1; omega⟩ h1 h2 raw_one
    refine ⟨h4, ?_⟩
    by_cases c : (∀ n ∈ path, 1 ≤ n ∧ n ≤ 32) ∧ okG kind g
    · rw [if_pos c] at hc
      refine .inr ⟨by unfold mErr; rw [if_pos ⟨⟨ha, hp, c.1⟩, c.2⟩], ?_⟩
      have hck := (chk_ok kind ls).1 hc
      rcases h6 with ⟨_, rfl⟩ | ⟨h6, _⟩
      · exact ⟨b, cp, ls, ⟨h1, h2, fun l hl => ⟨h5.2.2.1 l hl, (hck.2.2.1 l hl).2⟩, hck.2.1.1, hck.2.1.2⟩, h5, rfl⟩
      · exact absurd hc h6
    · rw [if_neg c] at hc
      refine .inl ⟨by unfold mErr; rw [if_neg (fun f => c ⟨f.1.2.2, f.2⟩)], ?_⟩
      rcases h6 with ⟨h6, _⟩ | ⟨_, rfl⟩
      · rw [hc] at h6; cases h6
      · rw [hc]
end Go.Proofs.Ytkbaafgaaiekpaa.entw
