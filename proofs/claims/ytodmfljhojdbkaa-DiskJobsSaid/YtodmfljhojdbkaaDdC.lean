/- The document's disk: settle. -/
import Derived.Test.YtodmfljhojdbkaaDdB
import Derived.Test.YtodmfljhojdbkaaHeldL
namespace Go.Proofs.Ytodmfljhojdbkaa.dskw
open Go.RowKit mem
set_option linter.unusedVariables false

def cntD (Di : Nat → Bool) (i : Nat) : Nat := (lisD Di i).length
theorem cntD_succ (Di : Nat → Bool) (i : Nat) : cntD Di (i + 1) = cntD Di i + (if Di i = true then 1 else 0) := by
  unfold cntD
  rw [lisD_succ, List.length_append]
  congr 1
  split <;> rfl
def keepB (all : Bool) (kl : List Bool) (k : Nat) : Bool := all || kl.getD k false
def newL (all : Bool) (kl : List Bool) (La No : Nat → List Nat) (Di : Nat → Bool) (j : Nat) : List Nat := if Di j = true ∧ keepB all kl (cntD Di j) = true then No j else La j
def midA (all : Bool) (kl : List Bool) (La No : Nat → List Nat) (Di : Nat → Bool) (i j : Nat) : List Nat := if j < i then newL all kl La No Di j else La j
def midM (all : Bool) (kl : List Bool) (La No : Nat → List Nat) (Di : Nat → Bool) (i j : Nat) : List Nat := if j < i then newL all kl La No Di j else No j
def midD (Di : Nat → Bool) (i j : Nat) : Bool := if j < i then false else Di j
theorem midA_yes {all : Bool} {kl : List Bool} {La No : Nat → List Nat} {Di : Nat → Bool} {i : Nat} (h : newL all kl La No Di i = No i) : updL (midA all kl La No Di i) i (No i) = midA all kl La No Di (i + 1) := by
  funext j
  unfold updL midA
  by_cases e : j = i
  · rw [if_pos e, if_pos (by omega), e, h]
  · rw [if_neg e]
    by_cases e2 : j < i
    · rw [if_pos e2, if_pos (by omega)]
    · rw [if_neg e2, if_neg (by omega)]
theorem midA_no {all : Bool} {kl : List Bool} {La No : Nat → List Nat} {Di : Nat → Bool} {i : Nat} (h : newL all kl La No Di i = La i) : midA all kl La No Di i = midA all kl La No Di (i + 1) := by
  funext j
  unfold midA
  by_cases e : j = i
  · rw [if_neg (by omega), if_pos (by omega), e, h]
  · by_cases e2 : j < i
    · rw [if_pos e2, if_pos (by omega)]
    · rw [if_neg e2, if_neg (by omega)]
theorem midM_next {all : Bool} {kl : List Bool} {La No : Nat → List Nat} {Di : Nat → Bool} {i : Nat} {l : List Nat} (h : newL all kl La No Di i = l) : updL (midM all kl La No Di i) i l = midM all kl La No Di (i + 1) := by
  funext j
  unfold updL midM
  by_cases e : j = i
  · rw [if_pos e, if_pos (by omega), e, h]
  · rw [if_neg e]
    by_cases e2 : j < i
    · rw [if_pos e2, if_pos (by omega)]
    · rw [if_neg e2, if_neg (by omega)]
theorem midD_next {Di : Nat → Bool} {i : Nat} : updB (midD Di i) i false = midD Di (i + 1) := by
  funext j
  unfold updB midD
  by_cases e : j = i
  · rw [if_pos e, if_pos (by omega)]
  · rw [if_neg e]
    by_cases e2 : j < i
    · rw [if_pos e2, if_pos (by omega)]
    · rw [if_neg e2, if_neg (by omega)]
set_option maxRecDepth 100000 in
set_option maxHeartbeats 8000000 in
theorem settle_any (q bL bN bD n cL cN cD : Nat) (La No : Nat → List Nat) (Di : Nat → Bool) (armed : Int) (off all : Bool) (a : Option Addr) (len cap : Nat) (kl : List Bool) (w : World) (h : DdAt w q bL bN bD n cL cN cD La No Di armed off) (hk : Bools w a len kl) (ha : 0 < len → ∀ x, a = some x → ¬ Dd4 q bL bN bD x.block) :
    Calls Try.prog 24 #[.pointer (some ⟨q, 0, none⟩), .bool all, .slice a len cap] w fun e w' => e = .returned (.tuple #[]) ∧ DdAt w' q bL bN bD n cL cN cD (midA all kl La No Di n) (midM all kl La No Di n) (midD Di n) armed off ∧ Only (Dd4 q bL bN bD) w w' := by
  have HK : Hid (∀ w', Only (Dd4 q bL bN bD) w w' → 0 < len → Bools w' a len kl) := Lib.hid (fun w' ho h0 => hk.only ho (ha h0))
  have hkl := hk.1
  have hkm := hk.2.1
  have h7 := h.h7
  have hm0 : midA all kl La No Di 0 = La := rfl
  have hm1 : midM all kl La No Di 0 = No := rfl
  have hm2 : midD Di 0 = Di := rfl
  have HD0 : Hid (DdAt w q bL bN bD n cL cN cD (midA all kl La No Di 0) (midM all kl La No Di 0) (midD Di 0) armed off) := Lib.hid (by rw [hm0, hm1, hm2]; exact h)
  clear h hk ha hm0 hm1 hm2
  go_enter Try.func24, Try.ntmps24
  go_wp2_with fail
  go_loopw [7, 6] (fun iv kv wx => ∃ i : Nat, i ≤ n ∧ iv = .int .i64 (i : Int) ∧ kv = .int .i64 ((cntD Di i : Nat) : Int) ∧ Hid (DdAt wx q bL bN bD n cL cN cD (midA all kl La No Di i) (midM all kl La No Di i) (midD Di i) armed off) ∧ Hid (Only (Dd4 q bL bN bD) w wx)) (fun iv _ _ => n - (intOf iv).toNat)
  case atStart => exact ⟨0, by omega, rfl, rfl, HD0, Lib.hid (Only.refl _ _)⟩
  case round =>
    clear HD0
    obtain ⟨i, hin', rfl, rfl, HDW, HX⟩ := hrel
    rename World => wx
    have x1 := HDW.out.c1
    have x2 := HDW.out.c2
    have x0 := HDW.out.c0
    by_cases h8 : i < n
    · have hin : (i : Int) < (n : Int) := by omega
      have hi0 : (0 : Int) ≤ (i : Int) := by omega
      have y2 := (HDW.out.rD i h8).1
      have hmd : midD Di i i = Di i := by unfold midD; rw [if_neg (by omega)]
      rw [hmd] at y2
      have HCS := cntD_succ Di i
      have hcl : cntD Di i ≤ i := lisD_len Di i
      obtain ⟨c, hc⟩ : ∃ x, cntD Di i = x := ⟨_, rfl⟩
      obtain ⟨mN, hmN⟩ : ∃ f, f = midM all kl La No Di i := ⟨_, rfl⟩
      obtain ⟨mD, hmD⟩ : ∃ f, f = midD Di i := ⟨_, rfl⟩
      have HMM := Lib.hid hmN
      have HMD := Lib.hid hmD
      rw [← hmN, ← hmD] at HDW
      have HMN : Hid ((mN i).length = 64 ∧ ∀ c ∈ mN i, c < 256) := Lib.hid (HDW.out.sN i h8)
      have hnw : newL all kl La No Di i = if Di i = true ∧ keepB all kl (cntD Di i) = true then No i else La i := rfl
      rw [hc] at HCS hcl hnw ⊢
      obtain ⟨b, hb⟩ : ∃ x, Di i = x := ⟨_, rfl⟩
      rw [hb] at y2 HCS hnw
      clear hmd hmN hmD hb hc
      cases b
      · have HNW : Hid (newL all kl La No Di i = La i) := Lib.hid (by rw [hnw]; simp)
        have HC1 : Hid (cntD Di (i + 1) = c) := Lib.hid (by simpa using HCS)
        have HKB := Lib.hid hnw
        clear hnw HCS
        · obtain ⟨la, hla⟩ : ∃ f, f = midA all kl La No Di i := ⟨_, rfl⟩
          have hlai : la i = La i := by rw [hla]; unfold midA; rw [if_neg (by omega)]
          have HFN : Hid (∀ w', DdAt w' q bL bN bD n cL cN cD la (updL mN i (la i)) (updB mD i false) armed off → DdAt w' q bL bN bD n cL cN cD (midA all kl La No Di (i + 1)) (midM all kl La No Di (i + 1)) (midD Di (i + 1)) armed off) := Lib.hid (fun w' h => by
            have hn := HNW.out
            rw [hlai, hla, HMM.out, HMD.out, midA_no hn, midM_next (l := La i) hn, midD_next] at h
            exact h)
          have HQ8 : Hid (∀ w', Only (fun _ => False) wx w' → DdAt w' q bL bN bD n cL cN cD la mN mD armed off) := Lib.hid (fun w' ho => by rw [hla]; exact HDW.out.quiet ho)
          have HLA : Hid ((la i).length = 64 ∧ ∀ c ∈ la i, c < 256) := Lib.hid ((HQ8.out _ (Only.refl _ _)).sL i h8)
          obtain ⟨s2, hs2⟩ : ∃ x, strN (la i) = x := ⟨_, rfl⟩
          have HS2 := Lib.hid hs2
          have HXY := HX
          obtain ⟨wy, hwy⟩ : ∃ y, y = wx := ⟨_, rfl⟩
          rw [← hwy] at HQ8 HXY
          go_upto_region 8 with fail
          rw [← hwy]
          clear hwy HX
          clear hla hlai hs2 x0 x1 x2 y2 HNW HMM HMD HDW HMN HKB
          refine wp_region_noPanic ?_
          refine late.region (fun w' => w'.cell? ⟨q, 0, none⟩ = some (.slice (some ⟨bL, 0, none⟩) n cL) ∧ w'.cell? ⟨q, 1, none⟩ = some (.slice (some ⟨bN, 0, none⟩) n cN) ∧ w'.cell? ⟨q, 2, none⟩ = some (.slice (some ⟨bD, 0, none⟩) n cD) ∧ w'.cell? ⟨bL, i, none⟩ = some (.string s2)) (fun j => [].contains j) (by kernel_rfl) (⟨(HQ8.out _ (Only.refl _ _).drew).c0, (HQ8.out _ (Only.refl _ _).drew).c1, (HQ8.out _ (Only.refl _ _).drew).c2, ((HQ8.out _ (Only.refl _ _).drew).rL i h8).1.trans (by rw [HS2.out])⟩) (fun hHeld => ?_)
          obtain ⟨z0, hz0'⟩ : ∃ x, x = wy.drew := ⟨_, rfl⟩
          rw [← hz0'] at hHeld ⊢
          have hot : Hid (Only (fun _ => False) wy z0) := Lib.hid (by rw [hz0']; exact (Only.refl _ _).drew)
          clear hz0'
          refine late.take (i := 0) [1, 2, 3, 17, 18, 19, 20] (v := ?_) rfl (by kernel_rfl) (by kernel_rfl) (by kernel_rfl) (by kernel_rfl) (fun _ _ _ h => h) (Or.inl ⟨by rfl, ?_⟩) (by assumption) ?_
          rotate_left 1
          · intro w' hSw
            try dsimp only at hSw
            go_simp
            try with_reducible rfl
          try simp only [List.getElem_toArray, List.getElem_cons_zero, Act.put, List.setIfInBounds_toArray, List.set_cons_zero, List.set_cons_succ]
          refine late.take (i := 1) [2, 3, 17, 18, 19, 20] (v := ?_) rfl (by kernel_rfl) (by kernel_rfl) (by kernel_rfl) (by kernel_rfl) (fun _ _ _ h => h) (Or.inl ⟨by rfl, ?_⟩) (by assumption) ?_
          rotate_left 1
          · intro w' hSw
            try dsimp only at hSw
            go_simp
            try with_reducible rfl
          try simp only [List.getElem_toArray, List.getElem_cons_zero, List.getElem_cons_succ, Act.put, List.setIfInBounds_toArray, List.set_cons_zero, List.set_cons_succ]
          refine late.take (i := 2) [3, 17, 18, 19, 20] (v := ?_) rfl (by kernel_rfl) (by kernel_rfl) (by kernel_rfl) (by kernel_rfl) (fun _ _ _ h => h) (Or.inl ⟨by rfl, ?_⟩) (by assumption) ?_
          rotate_left 1
          · intro w' hSw
            try dsimp only at hSw
            go_simp
            try with_reducible rfl
          try simp only [List.getElem_toArray, List.getElem_cons_zero, List.getElem_cons_succ, Act.put, List.setIfInBounds_toArray, List.set_cons_zero, List.set_cons_succ]
          refine late.take (i := 3) [17, 18, 19, 20] (v := ?_) rfl (by kernel_rfl) (by kernel_rfl) (by kernel_rfl) (by kernel_rfl) (fun _ _ _ h => h) (Or.inl ⟨by rfl, ?_⟩) (by assumption) ?_
          rotate_left 1
          · intro w' hSw
            try dsimp only at hSw
            go_simp
            try with_reducible rfl
          try simp only [List.getElem_toArray, List.getElem_cons_zero, List.getElem_cons_succ, Act.put, List.setIfInBounds_toArray, List.set_cons_zero, List.set_cons_succ]
          refine late.take (i := 4) [17, 18, 19, 20] (v := ?_) rfl (by kernel_rfl) (by kernel_rfl) (by kernel_rfl) (by kernel_rfl) (fun _ _ _ h => h) (Or.inl ⟨by rfl, ?_⟩) (by assumption) ?_
          rotate_left 1
          · intro w' hSw
            try dsimp only at hSw
            go_simp
            try with_reducible rfl
          try simp only [List.getElem_toArray, List.getElem_cons_zero, List.getElem_cons_succ, Act.put, List.setIfInBounds_toArray, List.set_cons_zero, List.set_cons_succ]
          refine late.take (i := 5) [6, 7, 8, 17, 18, 19, 20] (v := ?_) rfl (by kernel_rfl) (by kernel_rfl) (by kernel_rfl) (by kernel_rfl) (fun _ _ _ h => h) (Or.inl ⟨by rfl, ?_⟩) (by assumption) ?_
          rotate_left 1
          · intro w' hSw
            try dsimp only at hSw
            go_simp
            try with_reducible rfl
          try simp only [List.getElem_toArray, List.getElem_cons_zero, List.getElem_cons_succ, Act.put, List.setIfInBounds_toArray, List.set_cons_zero, List.set_cons_succ]
          refine late.take (i := 6) [7, 8, 17, 18, 19, 20] (v := ?_) rfl (by kernel_rfl) (by kernel_rfl) (by kernel_rfl) (by kernel_rfl) (fun _ _ _ h => h) (Or.inl ⟨by rfl, ?_⟩) (by assumption) ?_
          rotate_left 1
          · intro w' hSw
            try dsimp only at hSw
            go_simp
            try with_reducible rfl
          try simp only [List.getElem_toArray, List.getElem_cons_zero, List.getElem_cons_succ, Act.put, List.setIfInBounds_toArray, List.set_cons_zero, List.set_cons_succ]
          refine late.take (i := 7) [8, 17, 18, 19, 20] (v := ?_) rfl (by kernel_rfl) (by kernel_rfl) (by kernel_rfl) (by kernel_rfl) (fun _ _ _ h => h) (Or.inl ⟨by rfl, ?_⟩) (by assumption) ?_
          rotate_left 1
          · intro w' hSw
            try dsimp only at hSw
            go_simp
            try with_reducible rfl
          try simp only [List.getElem_toArray, List.getElem_cons_zero, List.getElem_cons_succ, Act.put, List.setIfInBounds_toArray, List.set_cons_zero, List.set_cons_succ]
          refine late.take (i := 8) [17, 18, 19, 20] (v := ?_) rfl (by kernel_rfl) (by kernel_rfl) (by kernel_rfl) (by kernel_rfl) (fun _ _ _ h => h) (Or.inl ⟨by rfl, ?_⟩) (by assumption) ?_
          rotate_left 1
          · intro w' hSw
            try dsimp only at hSw
            go_simp
            try with_reducible rfl
          try simp only [List.getElem_toArray, List.getElem_cons_zero, List.getElem_cons_succ, Act.put, List.setIfInBounds_toArray, List.set_cons_zero, List.set_cons_succ]
          refine late.take (i := 9) [19, 20] (v := ?_) rfl (by kernel_rfl) (by kernel_rfl) (by kernel_rfl) (by kernel_rfl) (fun _ _ _ h => h) (Or.inl ⟨by rfl, ?_⟩) (by assumption) ?_
          rotate_left 1
          · intro w' hSw
            try dsimp only at hSw
            go_simp
            try with_reducible rfl
          try simp only [List.getElem_toArray, List.getElem_cons_zero, List.getElem_cons_succ, Act.put, List.setIfInBounds_toArray, List.set_cons_zero, List.set_cons_succ]
          refine late.take (i := 10) [11, 12, 13, 15, 16, 17, 18, 19, 20] (v := ?_) rfl (by kernel_rfl) (by kernel_rfl) (by kernel_rfl) (by kernel_rfl) (fun _ _ _ h => h) (Or.inl ⟨by rfl, ?_⟩) (by assumption) ?_
          rotate_left 1
          · intro w' hSw
            try dsimp only at hSw
            go_simp
            try with_reducible rfl
          try simp only [List.getElem_toArray, List.getElem_cons_zero, List.getElem_cons_succ, Act.put, List.setIfInBounds_toArray, List.set_cons_zero, List.set_cons_succ]
          refine late.take (i := 11) [12, 13, 15, 16, 17, 18, 19, 20] (v := ?_) rfl (by kernel_rfl) (by kernel_rfl) (by kernel_rfl) (by kernel_rfl) (fun _ _ _ h => h) (Or.inl ⟨by rfl, ?_⟩) (by assumption) ?_
          rotate_left 1
          · intro w' hSw
            try dsimp only at hSw
            go_simp
            try with_reducible rfl
          try simp only [List.getElem_toArray, List.getElem_cons_zero, List.getElem_cons_succ, Act.put, List.setIfInBounds_toArray, List.set_cons_zero, List.set_cons_succ]
          refine late.take (i := 12) [13, 15, 16, 17, 18, 19, 20] (v := ?_) rfl (by kernel_rfl) (by kernel_rfl) (by kernel_rfl) (by kernel_rfl) (fun _ _ _ h => h) (Or.inl ⟨by rfl, ?_⟩) (by assumption) ?_
          rotate_left 1
          · intro w' hSw
            try dsimp only at hSw
            go_simp
            try with_reducible rfl
          try simp only [List.getElem_toArray, List.getElem_cons_zero, List.getElem_cons_succ, Act.put, List.setIfInBounds_toArray, List.set_cons_zero, List.set_cons_succ]
          refine late.take (i := 13) [15, 16, 17, 18, 19, 20] (v := ?_) rfl (by kernel_rfl) (by kernel_rfl) (by kernel_rfl) (by kernel_rfl) (fun _ _ _ h => h) (Or.inl ⟨by rfl, ?_⟩) (by assumption) ?_
          rotate_left 1
          · intro w' hSw
            try dsimp only at hSw
            go_simp
            try with_reducible rfl
          try simp only [List.getElem_toArray, List.getElem_cons_zero, List.getElem_cons_succ, Act.put, List.setIfInBounds_toArray, List.set_cons_zero, List.set_cons_succ]
          refine late.take (i := 14) [15, 16, 17, 18, 19, 20] (v := ?_) rfl (by kernel_rfl) (by kernel_rfl) (by kernel_rfl) (by kernel_rfl) (fun _ _ _ h => h) (Or.inl ⟨by rfl, ?_⟩) (by assumption) ?_
          rotate_left 1
          · intro w' hSw
            try dsimp only at hSw
            go_simp
            try with_reducible rfl
          try simp only [List.getElem_toArray, List.getElem_cons_zero, List.getElem_cons_succ, Act.put, List.setIfInBounds_toArray, List.set_cons_zero, List.set_cons_succ]
          refine late.take (i := 15) [16, 17, 18, 19, 20] (v := ?_) rfl (by kernel_rfl) (by kernel_rfl) (by kernel_rfl) (by kernel_rfl) (fun _ _ _ h => h) (Or.inl ⟨by rfl, ?_⟩) (by assumption) ?_
          rotate_left 1
          · intro w' hSw
            try dsimp only at hSw
            go_simp
            try with_reducible rfl
          try simp only [List.getElem_toArray, List.getElem_cons_zero, List.getElem_cons_succ, Act.put, List.setIfInBounds_toArray, List.set_cons_zero, List.set_cons_succ]
          refine late.take (i := 16) [17, 18, 19, 20] (v := ?_) rfl (by kernel_rfl) (by kernel_rfl) (by kernel_rfl) (by kernel_rfl) (fun _ _ _ h => h) (Or.inl ⟨by rfl, ?_⟩) (by assumption) ?_
          rotate_left 1
          · intro w' hSw
            try dsimp only at hSw
            go_simp
            try with_reducible rfl
          try simp only [List.getElem_toArray, List.getElem_cons_zero, List.getElem_cons_succ, Act.put, List.setIfInBounds_toArray, List.set_cons_zero, List.set_cons_succ]
          refine late.take (i := 17) [18, 19, 20] (v := ?_) rfl (by kernel_rfl) (by kernel_rfl) (by kernel_rfl) (by kernel_rfl) (fun _ _ _ h => h) (Or.inl ⟨by rfl, ?_⟩) (by assumption) ?_
          rotate_left 1
          · intro w' hSw
            try dsimp only at hSw
            go_simp
            try with_reducible rfl
          try simp only [List.getElem_toArray, List.getElem_cons_zero, List.getElem_cons_succ, Act.put, List.setIfInBounds_toArray, List.set_cons_zero, List.set_cons_succ]
          refine late.ready (rs := [18]) (by kernel_rfl) (by simp) ?_
          refine late.Each.cons rfl (fun K hK => ?_) late.Each.nil
          try simp only [List.getElem_toArray, List.getElem_cons_zero, List.getElem_cons_succ]
          go_simp
          have hk8 := HQ8.out _ hot.out
          have x0 := hk8.c0
          have x1 := hk8.c1
          have e0 := (hk8.rN i h8).1
          have e1 := (hk8.rN i h8).2
          have hk9 := hk8.setN i h8 (la i) HLA.out
          rw [HS2.out] at hk9
          have HK9 := Lib.hid hk9
          have HO9 : Hid (Only (Dd4 q bL bN bD) wy (z0.setCell ⟨bN, i, none⟩ (.string s2))) := Lib.hid ((hot.out.mono (fun _ _ f => f.elim)).trans ((Only.refl _ z0).setCell (p := ⟨bN, i, none⟩) (.inl (.inr (.inr (.inl rfl)))) _))
          clear hk8 hk9
          go_simp
          refine hK.out _ _ (fun _ => ⟨HK9.out.c0, HK9.out.c1, HK9.out.c2, (HK9.out.rL i h8).1.trans (by rw [HS2.out])⟩) (fun hHeld1 => ?_)
          replace hHeld1 := hHeld1 rfl
          clear hK K
          clear x0 x1 e0 e1
          try simp only [List.getElem_toArray, List.getElem_cons_zero, List.getElem_cons_succ, Act.put, List.setIfInBounds_toArray, List.set_cons_zero, List.set_cons_succ]
          refine late.take (i := 19) [20] (v := ?_) rfl (by kernel_rfl) (by kernel_rfl) (by kernel_rfl) (by kernel_rfl) (fun _ _ _ h => h) (Or.inl ⟨by rfl, ?_⟩) (by assumption) ?_
          rotate_left 1
          · intro w' hSw
            try dsimp only at hSw
            go_simp
            try with_reducible rfl
          try simp only [List.getElem_toArray, List.getElem_cons_zero, List.getElem_cons_succ, Act.put, List.setIfInBounds_toArray, List.set_cons_zero, List.set_cons_succ]
          refine late.ready (rs := [20]) (by kernel_rfl) (by simp) ?_
          refine late.Each.cons rfl (fun K hK => ?_) late.Each.nil
          try simp only [List.getElem_toArray, List.getElem_cons_zero, List.getElem_cons_succ]
          go_simp
          have x0 := HK9.out.c0
          have x2 := HK9.out.c2
          have e0 := (HK9.out.rD i h8).1
          have e1 := ((HQ8.out _ hot.out).rD i h8).2
          have hk10 := HK9.out.setD i h8 false
          have HK10 := Lib.hid hk10
          have HO10 : Hid (Only (Dd4 q bL bN bD) wy ((z0.setCell ⟨bN, i, none⟩ (.string s2)).setCell ⟨bD, i, none⟩ (.bool false))) := Lib.hid (HO9.out.trans ((Only.refl _ _).setCell (p := ⟨bD, i, none⟩) (.inl (.inr (.inr (.inr rfl)))) _))
          clear hk10
          go_simp
          refine hK.out _ _ (fun _ => ⟨HK10.out.c0, HK10.out.c1, HK10.out.c2, (HK10.out.rL i h8).1.trans (by rw [HS2.out])⟩) (fun hHeld2 => ?_)
          replace hHeld2 := hHeld2 rfl
          clear hK K
          clear x0 x2 e0 e1
          try simp only [List.getElem_toArray, List.getElem_cons_zero, List.getElem_cons_succ, Act.put, List.setIfInBounds_toArray, List.set_cons_zero, List.set_cons_succ]
          refine late.done (by kernel_rfl) ?_ _
          refine NoPanic.normal ?_
          clear hHeld
          obtain ⟨wz, hwz⟩ : ∃ y, y = (z0.setCell ⟨bN, i, none⟩ (.string s2)).setCell ⟨bD, i, none⟩ (.bool false) := ⟨_, rfl⟩
          rw [← hwz] at HK10 HO10
          try simp only [← hwz]
          have HNX : Hid (DdAt wz q bL bN bD n cL cN cD (midA all kl La No Di (i + 1)) (midM all kl La No Di (i + 1)) (midD Di (i + 1)) armed off) := Lib.hid (HFN.out _ HK10.out)
          have HXN : Hid (Only (Dd4 q bL bN bD) w wz) := Lib.hid (HXY.out.trans HO10.out)
          clear hwz hot HQ8 HK9 HK10 HO9 HO10
          go_wp2_with fail
          go_roundw
          case rel => exact ⟨i + 1, by omega, by go_num, (by rw [HC1.out]), HNX, HXN⟩
          case measure => (simp [intOf]; omega)
      · have HC1 : Hid (cntD Di (i + 1) = c + 1) := Lib.hid (by simpa using HCS)
        have hc0 : (0 : Int) ≤ (c : Int) := by omega
        obtain ⟨kb, hkb⟩ : ∃ x, keepB all kl c = x := ⟨_, rfl⟩
        rw [hkb] at hnw
        have HKB := Lib.hid hkb
        clear HCS
        cases all
        · have hkf : kb = kl.getD c false := by rw [← hkb]; rfl
          by_cases hlen : c < len
          · have hli : (c : Int) < (len : Int) := by omega
            obtain ⟨-, -, h0 | ⟨kb1, ko, rfl, hkc⟩⟩ := HK.out wx HX.out (by omega)
            · omega
            · have y3 := hkc c hlen
              rw [← hkf] at y3
              clear hkc hkf hkb
              cases kb
              · have HNW : Hid (newL false kl La No Di i = La i) := Lib.hid (by rw [hnw]; simp)
                clear hnw
                · obtain ⟨la, hla⟩ : ∃ f, f = midA false kl La No Di i := ⟨_, rfl⟩
                  have hlai : la i = La i := by rw [hla]; unfold midA; rw [if_neg (by omega)]
                  have HFN : Hid (∀ w', DdAt w' q bL bN bD n cL cN cD la (updL mN i (la i)) (updB mD i false) armed off → DdAt w' q bL bN bD n cL cN cD (midA false kl La No Di (i + 1)) (midM false kl La No Di (i + 1)) (midD Di (i + 1)) armed off) := Lib.hid (fun w' h => by
                    have hn := HNW.out
                    rw [hlai, hla, HMM.out, HMD.out, midA_no hn, midM_next (l := La i) hn, midD_next] at h
                    exact h)
                  have HQ8 : Hid (∀ w', Only (fun _ => False) wx w' → DdAt w' q bL bN bD n cL cN cD la mN mD armed off) := Lib.hid (fun w' ho => by rw [hla]; exact HDW.out.quiet ho)
                  have HLA : Hid ((la i).length = 64 ∧ ∀ c ∈ la i, c < 256) := Lib.hid ((HQ8.out _ (Only.refl _ _)).sL i h8)
                  obtain ⟨s2, hs2⟩ : ∃ x, strN (la i) = x := ⟨_, rfl⟩
                  have HS2 := Lib.hid hs2
                  have HXY := HX
                  obtain ⟨wy, hwy⟩ : ∃ y, y = wx := ⟨_, rfl⟩
                  rw [← hwy] at HQ8 HXY
                  go_upto_region 8 with fail
                  rw [← hwy]
                  clear hwy HX
                  clear hla hlai hs2 x0 x1 x2 y2 HNW HMM HMD HDW HMN HKB
                  refine wp_region_noPanic ?_
                  refine late.region (fun w' => w'.cell? ⟨q, 0, none⟩ = some (.slice (some ⟨bL, 0, none⟩) n cL) ∧ w'.cell? ⟨q, 1, none⟩ = some (.slice (some ⟨bN, 0, none⟩) n cN) ∧ w'.cell? ⟨q, 2, none⟩ = some (.slice (some ⟨bD, 0, none⟩) n cD) ∧ w'.cell? ⟨bL, i, none⟩ = some (.string s2)) (fun j => [].contains j) (by kernel_rfl) (⟨(HQ8.out _ (Only.refl _ _).drew).c0, (HQ8.out _ (Only.refl _ _).drew).c1, (HQ8.out _ (Only.refl _ _).drew).c2, ((HQ8.out _ (Only.refl _ _).drew).rL i h8).1.trans (by rw [HS2.out])⟩) (fun hHeld => ?_)
                  obtain ⟨z0, hz0'⟩ : ∃ x, x = wy.drew := ⟨_, rfl⟩
                  rw [← hz0'] at hHeld ⊢
                  have hot : Hid (Only (fun _ => False) wy z0) := Lib.hid (by rw [hz0']; exact (Only.refl _ _).drew)
                  clear hz0'
                  refine late.take (i := 0) [1, 2, 3, 17, 18, 19, 20] (v := ?_) rfl (by kernel_rfl) (by kernel_rfl) (by kernel_rfl) (by kernel_rfl) (fun _ _ _ h => h) (Or.inl ⟨by rfl, ?_⟩) (by assumption) ?_
                  rotate_left 1
                  · intro w' hSw
                    try dsimp only at hSw
                    go_simp
                    try with_reducible rfl
                  try simp only [List.getElem_toArray, List.getElem_cons_zero, Act.put, List.setIfInBounds_toArray, List.set_cons_zero, List.set_cons_succ]
                  refine late.take (i := 1) [2, 3, 17, 18, 19, 20] (v := ?_) rfl (by kernel_rfl) (by kernel_rfl) (by kernel_rfl) (by kernel_rfl) (fun _ _ _ h => h) (Or.inl ⟨by rfl, ?_⟩) (by assumption) ?_
                  rotate_left 1
                  · intro w' hSw
                    try dsimp only at hSw
                    go_simp
                    try with_reducible rfl
                  try simp only [List.getElem_toArray, List.getElem_cons_zero, List.getElem_cons_succ, Act.put, List.setIfInBounds_toArray, List.set_cons_zero, List.set_cons_succ]
                  refine late.take (i := 2) [3, 17, 18, 19, 20] (v := ?_) rfl (by kernel_rfl) (by kernel_rfl) (by kernel_rfl) (by kernel_rfl) (fun _ _ _ h => h) (Or.inl ⟨by rfl, ?_⟩) (by assumption) ?_
                  rotate_left 1
                  · intro w' hSw
                    try dsimp only at hSw
                    go_simp
                    try with_reducible rfl
                  try simp only [List.getElem_toArray, List.getElem_cons_zero, List.getElem_cons_succ, Act.put, List.setIfInBounds_toArray, List.set_cons_zero, List.set_cons_succ]
                  refine late.take (i := 3) [17, 18, 19, 20] (v := ?_) rfl (by kernel_rfl) (by kernel_rfl) (by kernel_rfl) (by kernel_rfl) (fun _ _ _ h => h) (Or.inl ⟨by rfl, ?_⟩) (by assumption) ?_
                  rotate_left 1
                  · intro w' hSw
                    try dsimp only at hSw
                    go_simp
                    try with_reducible rfl
                  try simp only [List.getElem_toArray, List.getElem_cons_zero, List.getElem_cons_succ, Act.put, List.setIfInBounds_toArray, List.set_cons_zero, List.set_cons_succ]
                  refine late.take (i := 4) [17, 18, 19, 20] (v := ?_) rfl (by kernel_rfl) (by kernel_rfl) (by kernel_rfl) (by kernel_rfl) (fun _ _ _ h => h) (Or.inl ⟨by rfl, ?_⟩) (by assumption) ?_
                  rotate_left 1
                  · intro w' hSw
                    try dsimp only at hSw
                    go_simp
                    try with_reducible rfl
                  try simp only [List.getElem_toArray, List.getElem_cons_zero, List.getElem_cons_succ, Act.put, List.setIfInBounds_toArray, List.set_cons_zero, List.set_cons_succ]
                  refine late.take (i := 5) [6, 7, 8, 17, 18, 19, 20] (v := ?_) rfl (by kernel_rfl) (by kernel_rfl) (by kernel_rfl) (by kernel_rfl) (fun _ _ _ h => h) (Or.inl ⟨by rfl, ?_⟩) (by assumption) ?_
                  rotate_left 1
                  · intro w' hSw
                    try dsimp only at hSw
                    go_simp
                    try with_reducible rfl
                  try simp only [List.getElem_toArray, List.getElem_cons_zero, List.getElem_cons_succ, Act.put, List.setIfInBounds_toArray, List.set_cons_zero, List.set_cons_succ]
                  refine late.take (i := 6) [7, 8, 17, 18, 19, 20] (v := ?_) rfl (by kernel_rfl) (by kernel_rfl) (by kernel_rfl) (by kernel_rfl) (fun _ _ _ h => h) (Or.inl ⟨by rfl, ?_⟩) (by assumption) ?_
                  rotate_left 1
                  · intro w' hSw
                    try dsimp only at hSw
                    go_simp
                    try with_reducible rfl
                  try simp only [List.getElem_toArray, List.getElem_cons_zero, List.getElem_cons_succ, Act.put, List.setIfInBounds_toArray, List.set_cons_zero, List.set_cons_succ]
                  refine late.take (i := 7) [8, 17, 18, 19, 20] (v := ?_) rfl (by kernel_rfl) (by kernel_rfl) (by kernel_rfl) (by kernel_rfl) (fun _ _ _ h => h) (Or.inl ⟨by rfl, ?_⟩) (by assumption) ?_
                  rotate_left 1
                  · intro w' hSw
                    try dsimp only at hSw
                    go_simp
                    try with_reducible rfl
                  try simp only [List.getElem_toArray, List.getElem_cons_zero, List.getElem_cons_succ, Act.put, List.setIfInBounds_toArray, List.set_cons_zero, List.set_cons_succ]
                  refine late.take (i := 8) [17, 18, 19, 20] (v := ?_) rfl (by kernel_rfl) (by kernel_rfl) (by kernel_rfl) (by kernel_rfl) (fun _ _ _ h => h) (Or.inl ⟨by rfl, ?_⟩) (by assumption) ?_
                  rotate_left 1
                  · intro w' hSw
                    try dsimp only at hSw
                    go_simp
                    try with_reducible rfl
                  try simp only [List.getElem_toArray, List.getElem_cons_zero, List.getElem_cons_succ, Act.put, List.setIfInBounds_toArray, List.set_cons_zero, List.set_cons_succ]
                  refine late.take (i := 9) [19, 20] (v := ?_) rfl (by kernel_rfl) (by kernel_rfl) (by kernel_rfl) (by kernel_rfl) (fun _ _ _ h => h) (Or.inl ⟨by rfl, ?_⟩) (by assumption) ?_
                  rotate_left 1
                  · intro w' hSw
                    try dsimp only at hSw
                    go_simp
                    try with_reducible rfl
                  try simp only [List.getElem_toArray, List.getElem_cons_zero, List.getElem_cons_succ, Act.put, List.setIfInBounds_toArray, List.set_cons_zero, List.set_cons_succ]
                  refine late.take (i := 10) [11, 12, 13, 15, 16, 17, 18, 19, 20] (v := ?_) rfl (by kernel_rfl) (by kernel_rfl) (by kernel_rfl) (by kernel_rfl) (fun _ _ _ h => h) (Or.inl ⟨by rfl, ?_⟩) (by assumption) ?_
                  rotate_left 1
                  · intro w' hSw
                    try dsimp only at hSw
                    go_simp
                    try with_reducible rfl
                  try simp only [List.getElem_toArray, List.getElem_cons_zero, List.getElem_cons_succ, Act.put, List.setIfInBounds_toArray, List.set_cons_zero, List.set_cons_succ]
                  refine late.take (i := 11) [12, 13, 15, 16, 17, 18, 19, 20] (v := ?_) rfl (by kernel_rfl) (by kernel_rfl) (by kernel_rfl) (by kernel_rfl) (fun _ _ _ h => h) (Or.inl ⟨by rfl, ?_⟩) (by assumption) ?_
                  rotate_left 1
                  · intro w' hSw
                    try dsimp only at hSw
                    go_simp
                    try with_reducible rfl
                  try simp only [List.getElem_toArray, List.getElem_cons_zero, List.getElem_cons_succ, Act.put, List.setIfInBounds_toArray, List.set_cons_zero, List.set_cons_succ]
                  refine late.take (i := 12) [13, 15, 16, 17, 18, 19, 20] (v := ?_) rfl (by kernel_rfl) (by kernel_rfl) (by kernel_rfl) (by kernel_rfl) (fun _ _ _ h => h) (Or.inl ⟨by rfl, ?_⟩) (by assumption) ?_
                  rotate_left 1
                  · intro w' hSw
                    try dsimp only at hSw
                    go_simp
                    try with_reducible rfl
                  try simp only [List.getElem_toArray, List.getElem_cons_zero, List.getElem_cons_succ, Act.put, List.setIfInBounds_toArray, List.set_cons_zero, List.set_cons_succ]
                  refine late.take (i := 13) [15, 16, 17, 18, 19, 20] (v := ?_) rfl (by kernel_rfl) (by kernel_rfl) (by kernel_rfl) (by kernel_rfl) (fun _ _ _ h => h) (Or.inl ⟨by rfl, ?_⟩) (by assumption) ?_
                  rotate_left 1
                  · intro w' hSw
                    try dsimp only at hSw
                    go_simp
                    try with_reducible rfl
                  try simp only [List.getElem_toArray, List.getElem_cons_zero, List.getElem_cons_succ, Act.put, List.setIfInBounds_toArray, List.set_cons_zero, List.set_cons_succ]
                  refine late.take (i := 14) [15, 16, 17, 18, 19, 20] (v := ?_) rfl (by kernel_rfl) (by kernel_rfl) (by kernel_rfl) (by kernel_rfl) (fun _ _ _ h => h) (Or.inl ⟨by rfl, ?_⟩) (by assumption) ?_
                  rotate_left 1
                  · intro w' hSw
                    try dsimp only at hSw
                    go_simp
                    try with_reducible rfl
                  try simp only [List.getElem_toArray, List.getElem_cons_zero, List.getElem_cons_succ, Act.put, List.setIfInBounds_toArray, List.set_cons_zero, List.set_cons_succ]
                  refine late.take (i := 15) [16, 17, 18, 19, 20] (v := ?_) rfl (by kernel_rfl) (by kernel_rfl) (by kernel_rfl) (by kernel_rfl) (fun _ _ _ h => h) (Or.inl ⟨by rfl, ?_⟩) (by assumption) ?_
                  rotate_left 1
                  · intro w' hSw
                    try dsimp only at hSw
                    go_simp
                    try with_reducible rfl
                  try simp only [List.getElem_toArray, List.getElem_cons_zero, List.getElem_cons_succ, Act.put, List.setIfInBounds_toArray, List.set_cons_zero, List.set_cons_succ]
                  refine late.take (i := 16) [17, 18, 19, 20] (v := ?_) rfl (by kernel_rfl) (by kernel_rfl) (by kernel_rfl) (by kernel_rfl) (fun _ _ _ h => h) (Or.inl ⟨by rfl, ?_⟩) (by assumption) ?_
                  rotate_left 1
                  · intro w' hSw
                    try dsimp only at hSw
                    go_simp
                    try with_reducible rfl
                  try simp only [List.getElem_toArray, List.getElem_cons_zero, List.getElem_cons_succ, Act.put, List.setIfInBounds_toArray, List.set_cons_zero, List.set_cons_succ]
                  refine late.take (i := 17) [18, 19, 20] (v := ?_) rfl (by kernel_rfl) (by kernel_rfl) (by kernel_rfl) (by kernel_rfl) (fun _ _ _ h => h) (Or.inl ⟨by rfl, ?_⟩) (by assumption) ?_
                  rotate_left 1
                  · intro w' hSw
                    try dsimp only at hSw
                    go_simp
                    try with_reducible rfl
                  try simp only [List.getElem_toArray, List.getElem_cons_zero, List.getElem_cons_succ, Act.put, List.setIfInBounds_toArray, List.set_cons_zero, List.set_cons_succ]
                  refine late.ready (rs := [18]) (by kernel_rfl) (by simp) ?_
                  refine late.Each.cons rfl (fun K hK => ?_) late.Each.nil
                  try simp only [List.getElem_toArray, List.getElem_cons_zero, List.getElem_cons_succ]
                  go_simp
                  have hk8 := HQ8.out _ hot.out
                  have x0 := hk8.c0
                  have x1 := hk8.c1
                  have e0 := (hk8.rN i h8).1
                  have e1 := (hk8.rN i h8).2
                  have hk9 := hk8.setN i h8 (la i) HLA.out
                  rw [HS2.out] at hk9
                  have HK9 := Lib.hid hk9
                  have HO9 : Hid (Only (Dd4 q bL bN bD) wy (z0.setCell ⟨bN, i, none⟩ (.string s2))) := Lib.hid ((hot.out.mono (fun _ _ f => f.elim)).trans ((Only.refl _ z0).setCell (p := ⟨bN, i, none⟩) (.inl (.inr (.inr (.inl rfl)))) _))
                  clear hk8 hk9
                  go_simp
                  refine hK.out _ _ (fun _ => ⟨HK9.out.c0, HK9.out.c1, HK9.out.c2, (HK9.out.rL i h8).1.trans (by rw [HS2.out])⟩) (fun hHeld1 => ?_)
                  replace hHeld1 := hHeld1 rfl
                  clear hK K
                  clear x0 x1 e0 e1
                  try simp only [List.getElem_toArray, List.getElem_cons_zero, List.getElem_cons_succ, Act.put, List.setIfInBounds_toArray, List.set_cons_zero, List.set_cons_succ]
                  refine late.take (i := 19) [20] (v := ?_) rfl (by kernel_rfl) (by kernel_rfl) (by kernel_rfl) (by kernel_rfl) (fun _ _ _ h => h) (Or.inl ⟨by rfl, ?_⟩) (by assumption) ?_
                  rotate_left 1
                  · intro w' hSw
                    try dsimp only at hSw
                    go_simp
                    try with_reducible rfl
                  try simp only [List.getElem_toArray, List.getElem_cons_zero, List.getElem_cons_succ, Act.put, List.setIfInBounds_toArray, List.set_cons_zero, List.set_cons_succ]
                  refine late.ready (rs := [20]) (by kernel_rfl) (by simp) ?_
                  refine late.Each.cons rfl (fun K hK => ?_) late.Each.nil
                  try simp only [List.getElem_toArray, List.getElem_cons_zero, List.getElem_cons_succ]
                  go_simp
                  have x0 := HK9.out.c0
                  have x2 := HK9.out.c2
                  have e0 := (HK9.out.rD i h8).1
                  have e1 := ((HQ8.out _ hot.out).rD i h8).2
                  have hk10 := HK9.out.setD i h8 false
                  have HK10 := Lib.hid hk10
                  have HO10 : Hid (Only (Dd4 q bL bN bD) wy ((z0.setCell ⟨bN, i, none⟩ (.string s2)).setCell ⟨bD, i, none⟩ (.bool false))) := Lib.hid (HO9.out.trans ((Only.refl _ _).setCell (p := ⟨bD, i, none⟩) (.inl (.inr (.inr (.inr rfl)))) _))
                  clear hk10
                  go_simp
                  refine hK.out _ _ (fun _ => ⟨HK10.out.c0, HK10.out.c1, HK10.out.c2, (HK10.out.rL i h8).1.trans (by rw [HS2.out])⟩) (fun hHeld2 => ?_)
                  replace hHeld2 := hHeld2 rfl
                  clear hK K
                  clear x0 x2 e0 e1
                  try simp only [List.getElem_toArray, List.getElem_cons_zero, List.getElem_cons_succ, Act.put, List.setIfInBounds_toArray, List.set_cons_zero, List.set_cons_succ]
                  refine late.done (by kernel_rfl) ?_ _
                  refine NoPanic.normal ?_
                  clear hHeld
                  obtain ⟨wz, hwz⟩ : ∃ y, y = (z0.setCell ⟨bN, i, none⟩ (.string s2)).setCell ⟨bD, i, none⟩ (.bool false) := ⟨_, rfl⟩
                  rw [← hwz] at HK10 HO10
                  try simp only [← hwz]
                  have HNX : Hid (DdAt wz q bL bN bD n cL cN cD (midA false kl La No Di (i + 1)) (midM false kl La No Di (i + 1)) (midD Di (i + 1)) armed off) := Lib.hid (HFN.out _ HK10.out)
                  have HXN : Hid (Only (Dd4 q bL bN bD) w wz) := Lib.hid (HXY.out.trans HO10.out)
                  clear hwz hot HQ8 HK9 HK10 HO9 HO10
                  go_wp2_with fail
                  go_roundw
                  case rel => exact ⟨i + 1, by omega, by go_num, (by rw [HC1.out]; go_num), HNX, HXN⟩
                  case measure => (simp [intOf]; omega)
              · have HNW : Hid (newL false kl La No Di i = No i) := Lib.hid (by rw [hnw]; simp)
                clear hnw
                · have HQ6 : Hid (∀ w', Only (fun _ => False) wx w' → DdAt w' q bL bN bD n cL cN cD (midA false kl La No Di i) mN mD armed off) := Lib.hid (fun w' ho => HDW.out.quiet ho)
                  obtain ⟨s1, hs1⟩ : ∃ x, strN (mN i) = x := ⟨_, rfl⟩
                  have HS1 := Lib.hid hs1
                  go_upto_region 6 with fail
                  clear hs1 x0 x1 x2 y2
                  refine wp_region_noPanic ?_
                  refine late.region (fun w' => w'.cell? ⟨q, 0, none⟩ = some (.slice (some ⟨bL, 0, none⟩) n cL) ∧ w'.cell? ⟨q, 1, none⟩ = some (.slice (some ⟨bN, 0, none⟩) n cN) ∧ w'.cell? ⟨bN, i, none⟩ = some (.string s1)) (fun j => [].contains j) (by kernel_rfl) (⟨(HQ6.out _ (Only.refl _ _).drew).c0, (HQ6.out _ (Only.refl _ _).drew).c1, ((HQ6.out _ (Only.refl _ _).drew).rN i h8).1.trans (by rw [HS1.out])⟩) (fun hHeld => ?_)
                  obtain ⟨z0, hz0'⟩ : ∃ x, x = wx.drew := ⟨_, rfl⟩
                  rw [← hz0'] at hHeld ⊢
                  have hot : Hid (Only (fun _ => False) wx z0) := Lib.hid (by rw [hz0']; exact (Only.refl _ _).drew)
                  clear hz0'
                  refine late.take (i := 0) [1, 2, 3, 12, 13] (v := ?_) rfl (by kernel_rfl) (by kernel_rfl) (by kernel_rfl) (by kernel_rfl) (fun _ _ _ h => h) (Or.inl ⟨by rfl, ?_⟩) (by assumption) ?_
                  rotate_left 1
                  · intro w' hSw
                    try dsimp only at hSw
                    go_simp
                    try with_reducible rfl
                  try simp only [List.getElem_toArray, List.getElem_cons_zero, Act.put, List.setIfInBounds_toArray, List.set_cons_zero, List.set_cons_succ]
                  refine late.take (i := 1) [2, 3, 12, 13] (v := ?_) rfl (by kernel_rfl) (by kernel_rfl) (by kernel_rfl) (by kernel_rfl) (fun _ _ _ h => h) (Or.inl ⟨by rfl, ?_⟩) (by assumption) ?_
                  rotate_left 1
                  · intro w' hSw
                    try dsimp only at hSw
                    go_simp
                    try with_reducible rfl
                  try simp only [List.getElem_toArray, List.getElem_cons_zero, List.getElem_cons_succ, Act.put, List.setIfInBounds_toArray, List.set_cons_zero, List.set_cons_succ]
                  refine late.take (i := 2) [3, 12, 13] (v := ?_) rfl (by kernel_rfl) (by kernel_rfl) (by kernel_rfl) (by kernel_rfl) (fun _ _ _ h => h) (Or.inl ⟨by rfl, ?_⟩) (by assumption) ?_
                  rotate_left 1
                  · intro w' hSw
                    try dsimp only at hSw
                    go_simp
                    try with_reducible rfl
                  try simp only [List.getElem_toArray, List.getElem_cons_zero, List.getElem_cons_succ, Act.put, List.setIfInBounds_toArray, List.set_cons_zero, List.set_cons_succ]
                  refine late.take (i := 3) [12, 13] (v := ?_) rfl (by kernel_rfl) (by kernel_rfl) (by kernel_rfl) (by kernel_rfl) (fun _ _ _ h => h) (Or.inl ⟨by rfl, ?_⟩) (by assumption) ?_
                  rotate_left 1
                  · intro w' hSw
                    try dsimp only at hSw
                    go_simp
                    try with_reducible rfl
                  try simp only [List.getElem_toArray, List.getElem_cons_zero, List.getElem_cons_succ, Act.put, List.setIfInBounds_toArray, List.set_cons_zero, List.set_cons_succ]
                  refine late.take (i := 4) [12, 13] (v := ?_) rfl (by kernel_rfl) (by kernel_rfl) (by kernel_rfl) (by kernel_rfl) (fun _ _ _ h => h) (Or.inl ⟨by rfl, ?_⟩) (by assumption) ?_
                  rotate_left 1
                  · intro w' hSw
                    try dsimp only at hSw
                    go_simp
                    try with_reducible rfl
                  try simp only [List.getElem_toArray, List.getElem_cons_zero, List.getElem_cons_succ, Act.put, List.setIfInBounds_toArray, List.set_cons_zero, List.set_cons_succ]
                  refine late.take (i := 5) [6, 7, 8, 10, 11, 12, 13] (v := ?_) rfl (by kernel_rfl) (by kernel_rfl) (by kernel_rfl) (by kernel_rfl) (fun _ _ _ h => h) (Or.inl ⟨by rfl, ?_⟩) (by assumption) ?_
                  rotate_left 1
                  · intro w' hSw
                    try dsimp only at hSw
                    go_simp
                    try with_reducible rfl
                  try simp only [List.getElem_toArray, List.getElem_cons_zero, List.getElem_cons_succ, Act.put, List.setIfInBounds_toArray, List.set_cons_zero, List.set_cons_succ]
                  refine late.take (i := 6) [7, 8, 10, 11, 12, 13] (v := ?_) rfl (by kernel_rfl) (by kernel_rfl) (by kernel_rfl) (by kernel_rfl) (fun _ _ _ h => h) (Or.inl ⟨by rfl, ?_⟩) (by assumption) ?_
                  rotate_left 1
                  · intro w' hSw
                    try dsimp only at hSw
                    go_simp
                    try with_reducible rfl
                  try simp only [List.getElem_toArray, List.getElem_cons_zero, List.getElem_cons_succ, Act.put, List.setIfInBounds_toArray, List.set_cons_zero, List.set_cons_succ]
                  refine late.take (i := 7) [8, 10, 11, 12, 13] (v := ?_) rfl (by kernel_rfl) (by kernel_rfl) (by kernel_rfl) (by kernel_rfl) (fun _ _ _ h => h) (Or.inl ⟨by rfl, ?_⟩) (by assumption) ?_
                  rotate_left 1
                  · intro w' hSw
                    try dsimp only at hSw
                    go_simp
                    try with_reducible rfl
                  try simp only [List.getElem_toArray, List.getElem_cons_zero, List.getElem_cons_succ, Act.put, List.setIfInBounds_toArray, List.set_cons_zero, List.set_cons_succ]
                  refine late.take (i := 8) [10, 11, 12, 13] (v := ?_) rfl (by kernel_rfl) (by kernel_rfl) (by kernel_rfl) (by kernel_rfl) (fun _ _ _ h => h) (Or.inl ⟨by rfl, ?_⟩) (by assumption) ?_
                  rotate_left 1
                  · intro w' hSw
                    try dsimp only at hSw
                    go_simp
                    try with_reducible rfl
                  try simp only [List.getElem_toArray, List.getElem_cons_zero, List.getElem_cons_succ, Act.put, List.setIfInBounds_toArray, List.set_cons_zero, List.set_cons_succ]
                  refine late.take (i := 9) [10, 11, 12, 13] (v := ?_) rfl (by kernel_rfl) (by kernel_rfl) (by kernel_rfl) (by kernel_rfl) (fun _ _ _ h => h) (Or.inl ⟨by rfl, ?_⟩) (by assumption) ?_
                  rotate_left 1
                  · intro w' hSw
                    try dsimp only at hSw
                    go_simp
                    try with_reducible rfl
                  try simp only [List.getElem_toArray, List.getElem_cons_zero, List.getElem_cons_succ, Act.put, List.setIfInBounds_toArray, List.set_cons_zero, List.set_cons_succ]
                  refine late.take (i := 10) [11, 12, 13] (v := ?_) rfl (by kernel_rfl) (by kernel_rfl) (by kernel_rfl) (by kernel_rfl) (fun _ _ _ h => h) (Or.inl ⟨by rfl, ?_⟩) (by assumption) ?_
                  rotate_left 1
                  · intro w' hSw
                    try dsimp only at hSw
                    go_simp
                    try with_reducible rfl
                  try simp only [List.getElem_toArray, List.getElem_cons_zero, List.getElem_cons_succ, Act.put, List.setIfInBounds_toArray, List.set_cons_zero, List.set_cons_succ]
                  refine late.take (i := 11) [12, 13] (v := ?_) rfl (by kernel_rfl) (by kernel_rfl) (by kernel_rfl) (by kernel_rfl) (fun _ _ _ h => h) (Or.inl ⟨by rfl, ?_⟩) (by assumption) ?_
                  rotate_left 1
                  · intro w' hSw
                    try dsimp only at hSw
                    go_simp
                    try with_reducible rfl
                  try simp only [List.getElem_toArray, List.getElem_cons_zero, List.getElem_cons_succ, Act.put, List.setIfInBounds_toArray, List.set_cons_zero, List.set_cons_succ]
                  refine late.take (i := 12) [13] (v := ?_) rfl (by kernel_rfl) (by kernel_rfl) (by kernel_rfl) (by kernel_rfl) (fun _ _ _ h => h) (Or.inl ⟨by rfl, ?_⟩) (by assumption) ?_
                  rotate_left 1
                  · intro w' hSw
                    try dsimp only at hSw
                    go_simp
                    try with_reducible rfl
                  try simp only [List.getElem_toArray, List.getElem_cons_zero, List.getElem_cons_succ, Act.put, List.setIfInBounds_toArray, List.set_cons_zero, List.set_cons_succ]
                  refine late.ready (rs := [13]) (by kernel_rfl) (by simp) ?_
                  refine late.Each.cons rfl (fun K hK => ?_) late.Each.nil
                  try simp only [List.getElem_toArray, List.getElem_cons_zero, List.getElem_cons_succ]
                  go_simp
                  have hk6 := HQ6.out _ hot.out
                  have x0 := hk6.c0
                  have x1 := hk6.c1
                  have e0 := (hk6.rL i h8).1
                  have e1 := (hk6.rL i h8).2
                  have hk7 := hk6.setL i h8 (mN i) HMN.out
                  rw [HS1.out] at hk7
                  have HK7 := Lib.hid hk7
                  have HO7 : Hid (Only (Dd4 q bL bN bD) wx (z0.setCell ⟨bL, i, none⟩ (.string s1))) := Lib.hid ((hot.out.mono (fun _ _ f => f.elim)).trans ((Only.refl _ z0).setCell (p := ⟨bL, i, none⟩) (.inl (.inr (.inl rfl))) _))
                  clear hk6 hk7
                  go_simp
                  refine hK.out _ _ (fun _ => ⟨HK7.out.c0, HK7.out.c1, (HK7.out.rN i h8).1.trans (by rw [HS1.out])⟩) (fun hHeld1 => ?_)
                  replace hHeld1 := hHeld1 rfl
                  clear hK K
                  clear x0 x1 e0 e1
                  try simp only [List.getElem_toArray, List.getElem_cons_zero, List.getElem_cons_succ, Act.put, List.setIfInBounds_toArray, List.set_cons_zero, List.set_cons_succ]
                  refine late.done (by kernel_rfl) ?_ _
                  refine NoPanic.normal ?_
                  clear hHeld hHeld1
                  obtain ⟨wy, hwy⟩ : ∃ y, y = z0.setCell ⟨bL, i, none⟩ (.string s1) := ⟨_, rfl⟩
                  rw [← hwy] at HK7 HO7
                  try simp only [← hwy]
                  clear hwy hot HQ6
                  obtain ⟨la, hla⟩ : ∃ f, f = updL (midA false kl La No Di i) i (mN i) := ⟨_, rfl⟩
                  have hlai : la i = mN i := by rw [hla]; unfold updL; rw [if_pos rfl]
                  have hmi : mN i = No i := by rw [HMM.out]; unfold midM; rw [if_neg (by omega)]
                  have HFN : Hid (∀ w', DdAt w' q bL bN bD n cL cN cD la (updL mN i (la i)) (updB mD i false) armed off → DdAt w' q bL bN bD n cL cN cD (midA false kl La No Di (i + 1)) (midM false kl La No Di (i + 1)) (midD Di (i + 1)) armed off) := Lib.hid (fun w' h => by
                    have hn := HNW.out
                    rw [hlai, hmi, hla, hmi, HMM.out, HMD.out, midA_yes hn, midM_next (l := No i) hn, midD_next] at h
                    exact h)
                  have HLA : Hid ((la i).length = 64 ∧ ∀ c ∈ la i, c < 256) := Lib.hid (by rw [hlai]; exact HMN.out)
                  have HQ8 : Hid (∀ w', Only (fun _ => False) wy w' → DdAt w' q bL bN bD n cL cN cD la mN mD armed off) := Lib.hid (fun w' ho => by rw [hla]; exact HK7.out.quiet ho)
                  obtain ⟨s2, hs2⟩ : ∃ x, strN (la i) = x := ⟨_, rfl⟩
                  have HS2 := Lib.hid hs2
                  have HXY := Lib.hid (HX.out.trans HO7.out)
                  clear hmi HK7 HO7 HX HS1
                  go_upto_region 8 with fail
                  clear hla hlai hs2 HNW HMM HMD HDW HMN HKB
                  refine wp_region_noPanic ?_
                  refine late.region (fun w' => w'.cell? ⟨q, 0, none⟩ = some (.slice (some ⟨bL, 0, none⟩) n cL) ∧ w'.cell? ⟨q, 1, none⟩ = some (.slice (some ⟨bN, 0, none⟩) n cN) ∧ w'.cell? ⟨q, 2, none⟩ = some (.slice (some ⟨bD, 0, none⟩) n cD) ∧ w'.cell? ⟨bL, i, none⟩ = some (.string s2)) (fun j => [].contains j) (by kernel_rfl) (⟨(HQ8.out _ (Only.refl _ _).drew).c0, (HQ8.out _ (Only.refl _ _).drew).c1, (HQ8.out _ (Only.refl _ _).drew).c2, ((HQ8.out _ (Only.refl _ _).drew).rL i h8).1.trans (by rw [HS2.out])⟩) (fun hHeld => ?_)
                  obtain ⟨z0, hz0'⟩ : ∃ x, x = wy.drew := ⟨_, rfl⟩
                  rw [← hz0'] at hHeld ⊢
                  have hot : Hid (Only (fun _ => False) wy z0) := Lib.hid (by rw [hz0']; exact (Only.refl _ _).drew)
                  clear hz0'
                  refine late.take (i := 0) [1, 2, 3, 17, 18, 19, 20] (v := ?_) rfl (by kernel_rfl) (by kernel_rfl) (by kernel_rfl) (by kernel_rfl) (fun _ _ _ h => h) (Or.inl ⟨by rfl, ?_⟩) (by assumption) ?_
                  rotate_left 1
                  · intro w' hSw
                    try dsimp only at hSw
                    go_simp
                    try with_reducible rfl
                  try simp only [List.getElem_toArray, List.getElem_cons_zero, Act.put, List.setIfInBounds_toArray, List.set_cons_zero, List.set_cons_succ]
                  refine late.take (i := 1) [2, 3, 17, 18, 19, 20] (v := ?_) rfl (by kernel_rfl) (by kernel_rfl) (by kernel_rfl) (by kernel_rfl) (fun _ _ _ h => h) (Or.inl ⟨by rfl, ?_⟩) (by assumption) ?_
                  rotate_left 1
                  · intro w' hSw
                    try dsimp only at hSw
                    go_simp
                    try with_reducible rfl
                  try simp only [List.getElem_toArray, List.getElem_cons_zero, List.getElem_cons_succ, Act.put, List.setIfInBounds_toArray, List.set_cons_zero, List.set_cons_succ]
                  refine late.take (i := 2) [3, 17, 18, 19, 20] (v := ?_) rfl (by kernel_rfl) (by kernel_rfl) (by kernel_rfl) (by kernel_rfl) (fun _ _ _ h => h) (Or.inl ⟨by rfl, ?_⟩) (by assumption) ?_
                  rotate_left 1
                  · intro w' hSw
                    try dsimp only at hSw
                    go_simp
                    try with_reducible rfl
                  try simp only [List.getElem_toArray, List.getElem_cons_zero, List.getElem_cons_succ, Act.put, List.setIfInBounds_toArray, List.set_cons_zero, List.set_cons_succ]
                  refine late.take (i := 3) [17, 18, 19, 20] (v := ?_) rfl (by kernel_rfl) (by kernel_rfl) (by kernel_rfl) (by kernel_rfl) (fun _ _ _ h => h) (Or.inl ⟨by rfl, ?_⟩) (by assumption) ?_
                  rotate_left 1
                  · intro w' hSw
                    try dsimp only at hSw
                    go_simp
                    try with_reducible rfl
                  try simp only [List.getElem_toArray, List.getElem_cons_zero, List.getElem_cons_succ, Act.put, List.setIfInBounds_toArray, List.set_cons_zero, List.set_cons_succ]
                  refine late.take (i := 4) [17, 18, 19, 20] (v := ?_) rfl (by kernel_rfl) (by kernel_rfl) (by kernel_rfl) (by kernel_rfl) (fun _ _ _ h => h) (Or.inl ⟨by rfl, ?_⟩) (by assumption) ?_
                  rotate_left 1
                  · intro w' hSw
                    try dsimp only at hSw
                    go_simp
                    try with_reducible rfl
                  try simp only [List.getElem_toArray, List.getElem_cons_zero, List.getElem_cons_succ, Act.put, List.setIfInBounds_toArray, List.set_cons_zero, List.set_cons_succ]
                  refine late.take (i := 5) [6, 7, 8, 17, 18, 19, 20] (v := ?_) rfl (by kernel_rfl) (by kernel_rfl) (by kernel_rfl) (by kernel_rfl) (fun _ _ _ h => h) (Or.inl ⟨by rfl, ?_⟩) (by assumption) ?_
                  rotate_left 1
                  · intro w' hSw
                    try dsimp only at hSw
                    go_simp
                    try with_reducible rfl
                  try simp only [List.getElem_toArray, List.getElem_cons_zero, List.getElem_cons_succ, Act.put, List.setIfInBounds_toArray, List.set_cons_zero, List.set_cons_succ]
                  refine late.take (i := 6) [7, 8, 17, 18, 19, 20] (v := ?_) rfl (by kernel_rfl) (by kernel_rfl) (by kernel_rfl) (by kernel_rfl) (fun _ _ _ h => h) (Or.inl ⟨by rfl, ?_⟩) (by assumption) ?_
                  rotate_left 1
                  · intro w' hSw
                    try dsimp only at hSw
                    go_simp
                    try with_reducible rfl
                  try simp only [List.getElem_toArray, List.getElem_cons_zero, List.getElem_cons_succ, Act.put, List.setIfInBounds_toArray, List.set_cons_zero, List.set_cons_succ]
                  refine late.take (i := 7) [8, 17, 18, 19, 20] (v := ?_) rfl (by kernel_rfl) (by kernel_rfl) (by kernel_rfl) (by kernel_rfl) (fun _ _ _ h => h) (Or.inl ⟨by rfl, ?_⟩) (by assumption) ?_
                  rotate_left 1
                  · intro w' hSw
                    try dsimp only at hSw
                    go_simp
                    try with_reducible rfl
                  try simp only [List.getElem_toArray, List.getElem_cons_zero, List.getElem_cons_succ, Act.put, List.setIfInBounds_toArray, List.set_cons_zero, List.set_cons_succ]
                  refine late.take (i := 8) [17, 18, 19, 20] (v := ?_) rfl (by kernel_rfl) (by kernel_rfl) (by kernel_rfl) (by kernel_rfl) (fun _ _ _ h => h) (Or.inl ⟨by rfl, ?_⟩) (by assumption) ?_
                  rotate_left 1
                  · intro w' hSw
                    try dsimp only at hSw
                    go_simp
                    try with_reducible rfl
                  try simp only [List.getElem_toArray, List.getElem_cons_zero, List.getElem_cons_succ, Act.put, List.setIfInBounds_toArray, List.set_cons_zero, List.set_cons_succ]
                  refine late.take (i := 9) [19, 20] (v := ?_) rfl (by kernel_rfl) (by kernel_rfl) (by kernel_rfl) (by kernel_rfl) (fun _ _ _ h => h) (Or.inl ⟨by rfl, ?_⟩) (by assumption) ?_
                  rotate_left 1
                  · intro w' hSw
                    try dsimp only at hSw
                    go_simp
                    try with_reducible rfl
                  try simp only [List.getElem_toArray, List.getElem_cons_zero, List.getElem_cons_succ, Act.put, List.setIfInBounds_toArray, List.set_cons_zero, List.set_cons_succ]
                  refine late.take (i := 10) [11, 12, 13, 15, 16, 17, 18, 19, 20] (v := ?_) rfl (by kernel_rfl) (by kernel_rfl) (by kernel_rfl) (by kernel_rfl) (fun _ _ _ h => h) (Or.inl ⟨by rfl, ?_⟩) (by assumption) ?_
                  rotate_left 1
                  · intro w' hSw
                    try dsimp only at hSw
                    go_simp
                    try with_reducible rfl
                  try simp only [List.getElem_toArray, List.getElem_cons_zero, List.getElem_cons_succ, Act.put, List.setIfInBounds_toArray, List.set_cons_zero, List.set_cons_succ]
                  refine late.take (i := 11) [12, 13, 15, 16, 17, 18, 19, 20] (v := ?_) rfl (by kernel_rfl) (by kernel_rfl) (by kernel_rfl) (by kernel_rfl) (fun _ _ _ h => h) (Or.inl ⟨by rfl, ?_⟩) (by assumption) ?_
                  rotate_left 1
                  · intro w' hSw
                    try dsimp only at hSw
                    go_simp
                    try with_reducible rfl
                  try simp only [List.getElem_toArray, List.getElem_cons_zero, List.getElem_cons_succ, Act.put, List.setIfInBounds_toArray, List.set_cons_zero, List.set_cons_succ]
                  refine late.take (i := 12) [13, 15, 16, 17, 18, 19, 20] (v := ?_) rfl (by kernel_rfl) (by kernel_rfl) (by kernel_rfl) (by kernel_rfl) (fun _ _ _ h => h) (Or.inl ⟨by rfl, ?_⟩) (by assumption) ?_
                  rotate_left 1
                  · intro w' hSw
                    try dsimp only at hSw
                    go_simp
                    try with_reducible rfl
                  try simp only [List.getElem_toArray, List.getElem_cons_zero, List.getElem_cons_succ, Act.put, List.setIfInBounds_toArray, List.set_cons_zero, List.set_cons_succ]
                  refine late.take (i := 13) [15, 16, 17, 18, 19, 20] (v := ?_) rfl (by kernel_rfl) (by kernel_rfl) (by kernel_rfl) (by kernel_rfl) (fun _ _ _ h => h) (Or.inl ⟨by rfl, ?_⟩) (by assumption) ?_
                  rotate_left 1
                  · intro w' hSw
                    try dsimp only at hSw
                    go_simp
                    try with_reducible rfl
                  try simp only [List.getElem_toArray, List.getElem_cons_zero, List.getElem_cons_succ, Act.put, List.setIfInBounds_toArray, List.set_cons_zero, List.set_cons_succ]
                  refine late.take (i := 14) [15, 16, 17, 18, 19, 20] (v := ?_) rfl (by kernel_rfl) (by kernel_rfl) (by kernel_rfl) (by kernel_rfl) (fun _ _ _ h => h) (Or.inl ⟨by rfl, ?_⟩) (by assumption) ?_
                  rotate_left 1
                  · intro w' hSw
                    try dsimp only at hSw
                    go_simp
                    try with_reducible rfl
                  try simp only [List.getElem_toArray, List.getElem_cons_zero, List.getElem_cons_succ, Act.put, List.setIfInBounds_toArray, List.set_cons_zero, List.set_cons_succ]
                  refine late.take (i := 15) [16, 17, 18, 19, 20] (v := ?_) rfl (by kernel_rfl) (by kernel_rfl) (by kernel_rfl) (by kernel_rfl) (fun _ _ _ h => h) (Or.inl ⟨by rfl, ?_⟩) (by assumption) ?_
                  rotate_left 1
                  · intro w' hSw
                    try dsimp only at hSw
                    go_simp
                    try with_reducible rfl
                  try simp only [List.getElem_toArray, List.getElem_cons_zero, List.getElem_cons_succ, Act.put, List.setIfInBounds_toArray, List.set_cons_zero, List.set_cons_succ]
                  refine late.take (i := 16) [17, 18, 19, 20] (v := ?_) rfl (by kernel_rfl) (by kernel_rfl) (by kernel_rfl) (by kernel_rfl) (fun _ _ _ h => h) (Or.inl ⟨by rfl, ?_⟩) (by assumption) ?_
                  rotate_left 1
                  · intro w' hSw
                    try dsimp only at hSw
                    go_simp
                    try with_reducible rfl
                  try simp only [List.getElem_toArray, List.getElem_cons_zero, List.getElem_cons_succ, Act.put, List.setIfInBounds_toArray, List.set_cons_zero, List.set_cons_succ]
                  refine late.take (i := 17) [18, 19, 20] (v := ?_) rfl (by kernel_rfl) (by kernel_rfl) (by kernel_rfl) (by kernel_rfl) (fun _ _ _ h => h) (Or.inl ⟨by rfl, ?_⟩) (by assumption) ?_
                  rotate_left 1
                  · intro w' hSw
                    try dsimp only at hSw
                    go_simp
                    try with_reducible rfl
                  try simp only [List.getElem_toArray, List.getElem_cons_zero, List.getElem_cons_succ, Act.put, List.setIfInBounds_toArray, List.set_cons_zero, List.set_cons_succ]
                  refine late.ready (rs := [18]) (by kernel_rfl) (by simp) ?_
                  refine late.Each.cons rfl (fun K hK => ?_) late.Each.nil
                  try simp only [List.getElem_toArray, List.getElem_cons_zero, List.getElem_cons_succ]
                  go_simp
                  have hk8 := HQ8.out _ hot.out
                  have x0 := hk8.c0
                  have x1 := hk8.c1
                  have e0 := (hk8.rN i h8).1
                  have e1 := (hk8.rN i h8).2
                  have hk9 := hk8.setN i h8 (la i) HLA.out
                  rw [HS2.out] at hk9
                  have HK9 := Lib.hid hk9
                  have HO9 : Hid (Only (Dd4 q bL bN bD) wy (z0.setCell ⟨bN, i, none⟩ (.string s2))) := Lib.hid ((hot.out.mono (fun _ _ f => f.elim)).trans ((Only.refl _ z0).setCell (p := ⟨bN, i, none⟩) (.inl (.inr (.inr (.inl rfl)))) _))
                  clear hk8 hk9
                  go_simp
                  refine hK.out _ _ (fun _ => ⟨HK9.out.c0, HK9.out.c1, HK9.out.c2, (HK9.out.rL i h8).1.trans (by rw [HS2.out])⟩) (fun hHeld1 => ?_)
                  replace hHeld1 := hHeld1 rfl
                  clear hK K
                  clear x0 x1 e0 e1
                  try simp only [List.getElem_toArray, List.getElem_cons_zero, List.getElem_cons_succ, Act.put, List.setIfInBounds_toArray, List.set_cons_zero, List.set_cons_succ]
                  refine late.take (i := 19) [20] (v := ?_) rfl (by kernel_rfl) (by kernel_rfl) (by kernel_rfl) (by kernel_rfl) (fun _ _ _ h => h) (Or.inl ⟨by rfl, ?_⟩) (by assumption) ?_
                  rotate_left 1
                  · intro w' hSw
                    try dsimp only at hSw
                    go_simp
                    try with_reducible rfl
                  try simp only [List.getElem_toArray, List.getElem_cons_zero, List.getElem_cons_succ, Act.put, List.setIfInBounds_toArray, List.set_cons_zero, List.set_cons_succ]
                  refine late.ready (rs := [20]) (by kernel_rfl) (by simp) ?_
                  refine late.Each.cons rfl (fun K hK => ?_) late.Each.nil
                  try simp only [List.getElem_toArray, List.getElem_cons_zero, List.getElem_cons_succ]
                  go_simp
                  have x0 := HK9.out.c0
                  have x2 := HK9.out.c2
                  have e0 := (HK9.out.rD i h8).1
                  have e1 := ((HQ8.out _ hot.out).rD i h8).2
                  have hk10 := HK9.out.setD i h8 false
                  have HK10 := Lib.hid hk10
                  have HO10 : Hid (Only (Dd4 q bL bN bD) wy ((z0.setCell ⟨bN, i, none⟩ (.string s2)).setCell ⟨bD, i, none⟩ (.bool false))) := Lib.hid (HO9.out.trans ((Only.refl _ _).setCell (p := ⟨bD, i, none⟩) (.inl (.inr (.inr (.inr rfl)))) _))
                  clear hk10
                  go_simp
                  refine hK.out _ _ (fun _ => ⟨HK10.out.c0, HK10.out.c1, HK10.out.c2, (HK10.out.rL i h8).1.trans (by rw [HS2.out])⟩) (fun hHeld2 => ?_)
                  replace hHeld2 := hHeld2 rfl
                  clear hK K
                  clear x0 x2 e0 e1
                  try simp only [List.getElem_toArray, List.getElem_cons_zero, List.getElem_cons_succ, Act.put, List.setIfInBounds_toArray, List.set_cons_zero, List.set_cons_succ]
                  refine late.done (by kernel_rfl) ?_ _
                  refine NoPanic.normal ?_
                  clear hHeld
                  obtain ⟨wz, hwz⟩ : ∃ y, y = (z0.setCell ⟨bN, i, none⟩ (.string s2)).setCell ⟨bD, i, none⟩ (.bool false) := ⟨_, rfl⟩
                  rw [← hwz] at HK10 HO10
                  try simp only [← hwz]
                  have HNX : Hid (DdAt wz q bL bN bD n cL cN cD (midA false kl La No Di (i + 1)) (midM false kl La No Di (i + 1)) (midD Di (i + 1)) armed off) := Lib.hid (HFN.out _ HK10.out)
                  have HXN : Hid (Only (Dd4 q bL bN bD) w wz) := Lib.hid (HXY.out.trans HO10.out)
                  clear hwz hot HQ8 HK9 HK10 HO9 HO10
                  go_wp2_with fail
                  go_roundw
                  case rel => exact ⟨i + 1, by omega, by go_num, (by rw [HC1.out]; go_num), HNX, HXN⟩
                  case measure => (simp [intOf]; omega)
          · have hli : ¬ (c : Int) < (len : Int) := by omega
            obtain rfl : kb = false := by rw [hkf]; simp [List.getD, List.getElem?_eq_none (show kl.length ≤ c by omega)]
            have HNW : Hid (newL false kl La No Di i = La i) := Lib.hid (by rw [hnw]; simp)
            clear hnw hkf hkb
            · obtain ⟨la, hla⟩ : ∃ f, f = midA false kl La No Di i := ⟨_, rfl⟩
              have hlai : la i = La i := by rw [hla]; unfold midA; rw [if_neg (by omega)]
              have HFN : Hid (∀ w', DdAt w' q bL bN bD n cL cN cD la (updL mN i (la i)) (updB mD i false) armed off → DdAt w' q bL bN bD n cL cN cD (midA false kl La No Di (i + 1)) (midM false kl La No Di (i + 1)) (midD Di (i + 1)) armed off) := Lib.hid (fun w' h => by
                have hn := HNW.out
                rw [hlai, hla, HMM.out, HMD.out, midA_no hn, midM_next (l := La i) hn, midD_next] at h
                exact h)
              have HQ8 : Hid (∀ w', Only (fun _ => False) wx w' → DdAt w' q bL bN bD n cL cN cD la mN mD armed off) := Lib.hid (fun w' ho => by rw [hla]; exact HDW.out.quiet ho)
              have HLA : Hid ((la i).length = 64 ∧ ∀ c ∈ la i, c < 256) := Lib.hid ((HQ8.out _ (Only.refl _ _)).sL i h8)
              obtain ⟨s2, hs2⟩ : ∃ x, strN (la i) = x := ⟨_, rfl⟩
              have HS2 := Lib.hid hs2
              have HXY := HX
              obtain ⟨wy, hwy⟩ : ∃ y, y = wx := ⟨_, rfl⟩
              rw [← hwy] at HQ8 HXY
              go_upto_region 8 with fail
              rw [← hwy]
              clear hwy HX
              clear hla hlai hs2 x0 x1 x2 y2 HNW HMM HMD HDW HMN HKB
              refine wp_region_noPanic ?_
              refine late.region (fun w' => w'.cell? ⟨q, 0, none⟩ = some (.slice (some ⟨bL, 0, none⟩) n cL) ∧ w'.cell? ⟨q, 1, none⟩ = some (.slice (some ⟨bN, 0, none⟩) n cN) ∧ w'.cell? ⟨q, 2, none⟩ = some (.slice (some ⟨bD, 0, none⟩) n cD) ∧ w'.cell? ⟨bL, i, none⟩ = some (.string s2)) (fun j => [].contains j) (by kernel_rfl) (⟨(HQ8.out _ (Only.refl _ _).drew).c0, (HQ8.out _ (Only.refl _ _).drew).c1, (HQ8.out _ (Only.refl _ _).drew).c2, ((HQ8.out _ (Only.refl _ _).drew).rL i h8).1.trans (by rw [HS2.out])⟩) (fun hHeld => ?_)
              obtain ⟨z0, hz0'⟩ : ∃ x, x = wy.drew := ⟨_, rfl⟩
              rw [← hz0'] at hHeld ⊢
              have hot : Hid (Only (fun _ => False) wy z0) := Lib.hid (by rw [hz0']; exact (Only.refl _ _).drew)
              clear hz0'
              refine late.take (i := 0) [1, 2, 3, 17, 18, 19, 20] (v := ?_) rfl (by kernel_rfl) (by kernel_rfl) (by kernel_rfl) (by kernel_rfl) (fun _ _ _ h => h) (Or.inl ⟨by rfl, ?_⟩) (by assumption) ?_
              rotate_left 1
              · intro w' hSw
                try dsimp only at hSw
                go_simp
                try with_reducible rfl
              try simp only [List.getElem_toArray, List.getElem_cons_zero, Act.put, List.setIfInBounds_toArray, List.set_cons_zero, List.set_cons_succ]
              refine late.take (i := 1) [2, 3, 17, 18, 19, 20] (v := ?_) rfl (by kernel_rfl) (by kernel_rfl) (by kernel_rfl) (by kernel_rfl) (fun _ _ _ h => h) (Or.inl ⟨by rfl, ?_⟩) (by assumption) ?_
              rotate_left 1
              · intro w' hSw
                try dsimp only at hSw
                go_simp
                try with_reducible rfl
              try simp only [List.getElem_toArray, List.getElem_cons_zero, List.getElem_cons_succ, Act.put, List.setIfInBounds_toArray, List.set_cons_zero, List.set_cons_succ]
              refine late.take (i := 2) [3, 17, 18, 19, 20] (v := ?_) rfl (by kernel_rfl) (by kernel_rfl) (by kernel_rfl) (by kernel_rfl) (fun _ _ _ h => h) (Or.inl ⟨by rfl, ?_⟩) (by assumption) ?_
              rotate_left 1
              · intro w' hSw
                try dsimp only at hSw
                go_simp
                try with_reducible rfl
              try simp only [List.getElem_toArray, List.getElem_cons_zero, List.getElem_cons_succ, Act.put, List.setIfInBounds_toArray, List.set_cons_zero, List.set_cons_succ]
              refine late.take (i := 3) [17, 18, 19, 20] (v := ?_) rfl (by kernel_rfl) (by kernel_rfl) (by kernel_rfl) (by kernel_rfl) (fun _ _ _ h => h) (Or.inl ⟨by rfl, ?_⟩) (by assumption) ?_
              rotate_left 1
              · intro w' hSw
                try dsimp only at hSw
                go_simp
                try with_reducible rfl
              try simp only [List.getElem_toArray, List.getElem_cons_zero, List.getElem_cons_succ, Act.put, List.setIfInBounds_toArray, List.set_cons_zero, List.set_cons_succ]
              refine late.take (i := 4) [17, 18, 19, 20] (v := ?_) rfl (by kernel_rfl) (by kernel_rfl) (by kernel_rfl) (by kernel_rfl) (fun _ _ _ h => h) (Or.inl ⟨by rfl, ?_⟩) (by assumption) ?_
              rotate_left 1
              · intro w' hSw
                try dsimp only at hSw
                go_simp
                try with_reducible rfl
              try simp only [List.getElem_toArray, List.getElem_cons_zero, List.getElem_cons_succ, Act.put, List.setIfInBounds_toArray, List.set_cons_zero, List.set_cons_succ]
              refine late.take (i := 5) [6, 7, 8, 17, 18, 19, 20] (v := ?_) rfl (by kernel_rfl) (by kernel_rfl) (by kernel_rfl) (by kernel_rfl) (fun _ _ _ h => h) (Or.inl ⟨by rfl, ?_⟩) (by assumption) ?_
              rotate_left 1
              · intro w' hSw
                try dsimp only at hSw
                go_simp
                try with_reducible rfl
              try simp only [List.getElem_toArray, List.getElem_cons_zero, List.getElem_cons_succ, Act.put, List.setIfInBounds_toArray, List.set_cons_zero, List.set_cons_succ]
              refine late.take (i := 6) [7, 8, 17, 18, 19, 20] (v := ?_) rfl (by kernel_rfl) (by kernel_rfl) (by kernel_rfl) (by kernel_rfl) (fun _ _ _ h => h) (Or.inl ⟨by rfl, ?_⟩) (by assumption) ?_
              rotate_left 1
              · intro w' hSw
                try dsimp only at hSw
                go_simp
                try with_reducible rfl
              try simp only [List.getElem_toArray, List.getElem_cons_zero, List.getElem_cons_succ, Act.put, List.setIfInBounds_toArray, List.set_cons_zero, List.set_cons_succ]
              refine late.take (i := 7) [8, 17, 18, 19, 20] (v := ?_) rfl (by kernel_rfl) (by kernel_rfl) (by kernel_rfl) (by kernel_rfl) (fun _ _ _ h => h) (Or.inl ⟨by rfl, ?_⟩) (by assumption) ?_
              rotate_left 1
              · intro w' hSw
                try dsimp only at hSw
                go_simp
                try with_reducible rfl
              try simp only [List.getElem_toArray, List.getElem_cons_zero, List.getElem_cons_succ, Act.put, List.setIfInBounds_toArray, List.set_cons_zero, List.set_cons_succ]
              refine late.take (i := 8) [17, 18, 19, 20] (v := ?_) rfl (by kernel_rfl) (by kernel_rfl) (by kernel_rfl) (by kernel_rfl) (fun _ _ _ h => h) (Or.inl ⟨by rfl, ?_⟩) (by assumption) ?_
              rotate_left 1
              · intro w' hSw
                try dsimp only at hSw
                go_simp
                try with_reducible rfl
              try simp only [List.getElem_toArray, List.getElem_cons_zero, List.getElem_cons_succ, Act.put, List.setIfInBounds_toArray, List.set_cons_zero, List.set_cons_succ]
              refine late.take (i := 9) [19, 20] (v := ?_) rfl (by kernel_rfl) (by kernel_rfl) (by kernel_rfl) (by kernel_rfl) (fun _ _ _ h => h) (Or.inl ⟨by rfl, ?_⟩) (by assumption) ?_
              rotate_left 1
              · intro w' hSw
                try dsimp only at hSw
                go_simp
                try with_reducible rfl
              try simp only [List.getElem_toArray, List.getElem_cons_zero, List.getElem_cons_succ, Act.put, List.setIfInBounds_toArray, List.set_cons_zero, List.set_cons_succ]
              refine late.take (i := 10) [11, 12, 13, 15, 16, 17, 18, 19, 20] (v := ?_) rfl (by kernel_rfl) (by kernel_rfl) (by kernel_rfl) (by kernel_rfl) (fun _ _ _ h => h) (Or.inl ⟨by rfl, ?_⟩) (by assumption) ?_
              rotate_left 1
              · intro w' hSw
                try dsimp only at hSw
                go_simp
                try with_reducible rfl
              try simp only [List.getElem_toArray, List.getElem_cons_zero, List.getElem_cons_succ, Act.put, List.setIfInBounds_toArray, List.set_cons_zero, List.set_cons_succ]
              refine late.take (i := 11) [12, 13, 15, 16, 17, 18, 19, 20] (v := ?_) rfl (by kernel_rfl) (by kernel_rfl) (by kernel_rfl) (by kernel_rfl) (fun _ _ _ h => h) (Or.inl ⟨by rfl, ?_⟩) (by assumption) ?_
              rotate_left 1
              · intro w' hSw
                try dsimp only at hSw
                go_simp
                try with_reducible rfl
              try simp only [List.getElem_toArray, List.getElem_cons_zero, List.getElem_cons_succ, Act.put, List.setIfInBounds_toArray, List.set_cons_zero, List.set_cons_succ]
              refine late.take (i := 12) [13, 15, 16, 17, 18, 19, 20] (v := ?_) rfl (by kernel_rfl) (by kernel_rfl) (by kernel_rfl) (by kernel_rfl) (fun _ _ _ h => h) (Or.inl ⟨by rfl, ?_⟩) (by assumption) ?_
              rotate_left 1
              · intro w' hSw
                try dsimp only at hSw
                go_simp
                try with_reducible rfl
              try simp only [List.getElem_toArray, List.getElem_cons_zero, List.getElem_cons_succ, Act.put, List.setIfInBounds_toArray, List.set_cons_zero, List.set_cons_succ]
              refine late.take (i := 13) [15, 16, 17, 18, 19, 20] (v := ?_) rfl (by kernel_rfl) (by kernel_rfl) (by kernel_rfl) (by kernel_rfl) (fun _ _ _ h => h) (Or.inl ⟨by rfl, ?_⟩) (by assumption) ?_
              rotate_left 1
              · intro w' hSw
                try dsimp only at hSw
                go_simp
                try with_reducible rfl
              try simp only [List.getElem_toArray, List.getElem_cons_zero, List.getElem_cons_succ, Act.put, List.setIfInBounds_toArray, List.set_cons_zero, List.set_cons_succ]
              refine late.take (i := 14) [15, 16, 17, 18, 19, 20] (v := ?_) rfl (by kernel_rfl) (by kernel_rfl) (by kernel_rfl) (by kernel_rfl) (fun _ _ _ h => h) (Or.inl ⟨by rfl, ?_⟩) (by assumption) ?_
              rotate_left 1
              · intro w' hSw
                try dsimp only at hSw
                go_simp
                try with_reducible rfl
              try simp only [List.getElem_toArray, List.getElem_cons_zero, List.getElem_cons_succ, Act.put, List.setIfInBounds_toArray, List.set_cons_zero, List.set_cons_succ]
              refine late.take (i := 15) [16, 17, 18, 19, 20] (v := ?_) rfl (by kernel_rfl) (by kernel_rfl) (by kernel_rfl) (by kernel_rfl) (fun _ _ _ h => h) (Or.inl ⟨by rfl, ?_⟩) (by assumption) ?_
              rotate_left 1
              · intro w' hSw
                try dsimp only at hSw
                go_simp
                try with_reducible rfl
              try simp only [List.getElem_toArray, List.getElem_cons_zero, List.getElem_cons_succ, Act.put, List.setIfInBounds_toArray, List.set_cons_zero, List.set_cons_succ]
              refine late.take (i := 16) [17, 18, 19, 20] (v := ?_) rfl (by kernel_rfl) (by kernel_rfl) (by kernel_rfl) (by kernel_rfl) (fun _ _ _ h => h) (Or.inl ⟨by rfl, ?_⟩) (by assumption) ?_
              rotate_left 1
              · intro w' hSw
                try dsimp only at hSw
                go_simp
                try with_reducible rfl
              try simp only [List.getElem_toArray, List.getElem_cons_zero, List.getElem_cons_succ, Act.put, List.setIfInBounds_toArray, List.set_cons_zero, List.set_cons_succ]
              refine late.take (i := 17) [18, 19, 20] (v := ?_) rfl (by kernel_rfl) (by kernel_rfl) (by kernel_rfl) (by kernel_rfl) (fun _ _ _ h => h) (Or.inl ⟨by rfl, ?_⟩) (by assumption) ?_
              rotate_left 1
              · intro w' hSw
                try dsimp only at hSw
                go_simp
                try with_reducible rfl
              try simp only [List.getElem_toArray, List.getElem_cons_zero, List.getElem_cons_succ, Act.put, List.setIfInBounds_toArray, List.set_cons_zero, List.set_cons_succ]
              refine late.ready (rs := [18]) (by kernel_rfl) (by simp) ?_
              refine late.Each.cons rfl (fun K hK => ?_) late.Each.nil
              try simp only [List.getElem_toArray, List.getElem_cons_zero, List.getElem_cons_succ]
              go_simp
              have hk8 := HQ8.out _ hot.out
              have x0 := hk8.c0
              have x1 := hk8.c1
              have e0 := (hk8.rN i h8).1
              have e1 := (hk8.rN i h8).2
              have hk9 := hk8.setN i h8 (la i) HLA.out
              rw [HS2.out] at hk9
              have HK9 := Lib.hid hk9
              have HO9 : Hid (Only (Dd4 q bL bN bD) wy (z0.setCell ⟨bN, i, none⟩ (.string s2))) := Lib.hid ((hot.out.mono (fun _ _ f => f.elim)).trans ((Only.refl _ z0).setCell (p := ⟨bN, i, none⟩) (.inl (.inr (.inr (.inl rfl)))) _))
              clear hk8 hk9
              go_simp
              refine hK.out _ _ (fun _ => ⟨HK9.out.c0, HK9.out.c1, HK9.out.c2, (HK9.out.rL i h8).1.trans (by rw [HS2.out])⟩) (fun hHeld1 => ?_)
              replace hHeld1 := hHeld1 rfl
              clear hK K
              clear x0 x1 e0 e1
              try simp only [List.getElem_toArray, List.getElem_cons_zero, List.getElem_cons_succ, Act.put, List.setIfInBounds_toArray, List.set_cons_zero, List.set_cons_succ]
              refine late.take (i := 19) [20] (v := ?_) rfl (by kernel_rfl) (by kernel_rfl) (by kernel_rfl) (by kernel_rfl) (fun _ _ _ h => h) (Or.inl ⟨by rfl, ?_⟩) (by assumption) ?_
              rotate_left 1
              · intro w' hSw
                try dsimp only at hSw
                go_simp
                try with_reducible rfl
              try simp only [List.getElem_toArray, List.getElem_cons_zero, List.getElem_cons_succ, Act.put, List.setIfInBounds_toArray, List.set_cons_zero, List.set_cons_succ]
              refine late.ready (rs := [20]) (by kernel_rfl) (by simp) ?_
              refine late.Each.cons rfl (fun K hK => ?_) late.Each.nil
              try simp only [List.getElem_toArray, List.getElem_cons_zero, List.getElem_cons_succ]
              go_simp
              have x0 := HK9.out.c0
              have x2 := HK9.out.c2
              have e0 := (HK9.out.rD i h8).1
              have e1 := ((HQ8.out _ hot.out).rD i h8).2
              have hk10 := HK9.out.setD i h8 false
              have HK10 := Lib.hid hk10
              have HO10 : Hid (Only (Dd4 q bL bN bD) wy ((z0.setCell ⟨bN, i, none⟩ (.string s2)).setCell ⟨bD, i, none⟩ (.bool false))) := Lib.hid (HO9.out.trans ((Only.refl _ _).setCell (p := ⟨bD, i, none⟩) (.inl (.inr (.inr (.inr rfl)))) _))
              clear hk10
              go_simp
              refine hK.out _ _ (fun _ => ⟨HK10.out.c0, HK10.out.c1, HK10.out.c2, (HK10.out.rL i h8).1.trans (by rw [HS2.out])⟩) (fun hHeld2 => ?_)
              replace hHeld2 := hHeld2 rfl
              clear hK K
              clear x0 x2 e0 e1
              try simp only [List.getElem_toArray, List.getElem_cons_zero, List.getElem_cons_succ, Act.put, List.setIfInBounds_toArray, List.set_cons_zero, List.set_cons_succ]
              refine late.done (by kernel_rfl) ?_ _
              refine NoPanic.normal ?_
              clear hHeld
              obtain ⟨wz, hwz⟩ : ∃ y, y = (z0.setCell ⟨bN, i, none⟩ (.string s2)).setCell ⟨bD, i, none⟩ (.bool false) := ⟨_, rfl⟩
              rw [← hwz] at HK10 HO10
              try simp only [← hwz]
              have HNX : Hid (DdAt wz q bL bN bD n cL cN cD (midA false kl La No Di (i + 1)) (midM false kl La No Di (i + 1)) (midD Di (i + 1)) armed off) := Lib.hid (HFN.out _ HK10.out)
              have HXN : Hid (Only (Dd4 q bL bN bD) w wz) := Lib.hid (HXY.out.trans HO10.out)
              clear hwz hot HQ8 HK9 HK10 HO9 HO10
              go_wp2_with fail
              go_roundw
              case rel => exact ⟨i + 1, by omega, by go_num, (by rw [HC1.out]; go_num), HNX, HXN⟩
              case measure => (simp [intOf]; omega)
        · obtain rfl : kb = true := by rw [← hkb]; rfl
          have HNW : Hid (newL true kl La No Di i = No i) := Lib.hid (by rw [hnw]; simp)
          clear hnw hkb
          · have HQ6 : Hid (∀ w', Only (fun _ => False) wx w' → DdAt w' q bL bN bD n cL cN cD (midA true kl La No Di i) mN mD armed off) := Lib.hid (fun w' ho => HDW.out.quiet ho)
            obtain ⟨s1, hs1⟩ : ∃ x, strN (mN i) = x := ⟨_, rfl⟩
            have HS1 := Lib.hid hs1
            go_upto_region 6 with fail
            clear hs1 x0 x1 x2 y2
            refine wp_region_noPanic ?_
            refine late.region (fun w' => w'.cell? ⟨q, 0, none⟩ = some (.slice (some ⟨bL, 0, none⟩) n cL) ∧ w'.cell? ⟨q, 1, none⟩ = some (.slice (some ⟨bN, 0, none⟩) n cN) ∧ w'.cell? ⟨bN, i, none⟩ = some (.string s1)) (fun j => [].contains j) (by kernel_rfl) (⟨(HQ6.out _ (Only.refl _ _).drew).c0, (HQ6.out _ (Only.refl _ _).drew).c1, ((HQ6.out _ (Only.refl _ _).drew).rN i h8).1.trans (by rw [HS1.out])⟩) (fun hHeld => ?_)
            obtain ⟨z0, hz0'⟩ : ∃ x, x = wx.drew := ⟨_, rfl⟩
            rw [← hz0'] at hHeld ⊢
            have hot : Hid (Only (fun _ => False) wx z0) := Lib.hid (by rw [hz0']; exact (Only.refl _ _).drew)
            clear hz0'
            refine late.take (i := 0) [1, 2, 3, 12, 13] (v := ?_) rfl (by kernel_rfl) (by kernel_rfl) (by kernel_rfl) (by kernel_rfl) (fun _ _ _ h => h) (Or.inl ⟨by rfl, ?_⟩) (by assumption) ?_
            rotate_left 1
            · intro w' hSw
              try dsimp only at hSw
              go_simp
              try with_reducible rfl
            try simp only [List.getElem_toArray, List.getElem_cons_zero, Act.put, List.setIfInBounds_toArray, List.set_cons_zero, List.set_cons_succ]
            refine late.take (i := 1) [2, 3, 12, 13] (v := ?_) rfl (by kernel_rfl) (by kernel_rfl) (by kernel_rfl) (by kernel_rfl) (fun _ _ _ h => h) (Or.inl ⟨by rfl, ?_⟩) (by assumption) ?_
            rotate_left 1
            · intro w' hSw
              try dsimp only at hSw
              go_simp
              try with_reducible rfl
            try simp only [List.getElem_toArray, List.getElem_cons_zero, List.getElem_cons_succ, Act.put, List.setIfInBounds_toArray, List.set_cons_zero, List.set_cons_succ]
            refine late.take (i := 2) [3, 12, 13] (v := ?_) rfl (by kernel_rfl) (by kernel_rfl) (by kernel_rfl) (by kernel_rfl) (fun _ _ _ h => h) (Or.inl ⟨by rfl, ?_⟩) (by assumption) ?_
            rotate_left 1
            · intro w' hSw
              try dsimp only at hSw
              go_simp
              try with_reducible rfl
            try simp only [List.getElem_toArray, List.getElem_cons_zero, List.getElem_cons_succ, Act.put, List.setIfInBounds_toArray, List.set_cons_zero, List.set_cons_succ]
            refine late.take (i := 3) [12, 13] (v := ?_) rfl (by kernel_rfl) (by kernel_rfl) (by kernel_rfl) (by kernel_rfl) (fun _ _ _ h => h) (Or.inl ⟨by rfl, ?_⟩) (by assumption) ?_
            rotate_left 1
            · intro w' hSw
              try dsimp only at hSw
              go_simp
              try with_reducible rfl
            try simp only [List.getElem_toArray, List.getElem_cons_zero, List.getElem_cons_succ, Act.put, List.setIfInBounds_toArray, List.set_cons_zero, List.set_cons_succ]
            refine late.take (i := 4) [12, 13] (v := ?_) rfl (by kernel_rfl) (by kernel_rfl) (by kernel_rfl) (by kernel_rfl) (fun _ _ _ h => h) (Or.inl ⟨by rfl, ?_⟩) (by assumption) ?_
            rotate_left 1
            · intro w' hSw
              try dsimp only at hSw
              go_simp
              try with_reducible rfl
            try simp only [List.getElem_toArray, List.getElem_cons_zero, List.getElem_cons_succ, Act.put, List.setIfInBounds_toArray, List.set_cons_zero, List.set_cons_succ]
            refine late.take (i := 5) [6, 7, 8, 10, 11, 12, 13] (v := ?_) rfl (by kernel_rfl) (by kernel_rfl) (by kernel_rfl) (by kernel_rfl) (fun _ _ _ h => h) (Or.inl ⟨by rfl, ?_⟩) (by assumption) ?_
            rotate_left 1
            · intro w' hSw
              try dsimp only at hSw
              go_simp
              try with_reducible rfl
            try simp only [List.getElem_toArray, List.getElem_cons_zero, List.getElem_cons_succ, Act.put, List.setIfInBounds_toArray, List.set_cons_zero, List.set_cons_succ]
            refine late.take (i := 6) [7, 8, 10, 11, 12, 13] (v := ?_) rfl (by kernel_rfl) (by kernel_rfl) (by kernel_rfl) (by kernel_rfl) (fun _ _ _ h => h) (Or.inl ⟨by rfl, ?_⟩) (by assumption) ?_
            rotate_left 1
            · intro w' hSw
              try dsimp only at hSw
              go_simp
              try with_reducible rfl
            try simp only [List.getElem_toArray, List.getElem_cons_zero, List.getElem_cons_succ, Act.put, List.setIfInBounds_toArray, List.set_cons_zero, List.set_cons_succ]
            refine late.take (i := 7) [8, 10, 11, 12, 13] (v := ?_) rfl (by kernel_rfl) (by kernel_rfl) (by kernel_rfl) (by kernel_rfl) (fun _ _ _ h => h) (Or.inl ⟨by rfl, ?_⟩) (by assumption) ?_
            rotate_left 1
            · intro w' hSw
              try dsimp only at hSw
              go_simp
              try with_reducible rfl
            try simp only [List.getElem_toArray, List.getElem_cons_zero, List.getElem_cons_succ, Act.put, List.setIfInBounds_toArray, List.set_cons_zero, List.set_cons_succ]
            refine late.take (i := 8) [10, 11, 12, 13] (v := ?_) rfl (by kernel_rfl) (by kernel_rfl) (by kernel_rfl) (by kernel_rfl) (fun _ _ _ h => h) (Or.inl ⟨by rfl, ?_⟩) (by assumption) ?_
            rotate_left 1
            · intro w' hSw
              try dsimp only at hSw
              go_simp
              try with_reducible rfl
            try simp only [List.getElem_toArray, List.getElem_cons_zero, List.getElem_cons_succ, Act.put, List.setIfInBounds_toArray, List.set_cons_zero, List.set_cons_succ]
            refine late.take (i := 9) [10, 11, 12, 13] (v := ?_) rfl (by kernel_rfl) (by kernel_rfl) (by kernel_rfl) (by kernel_rfl) (fun _ _ _ h => h) (Or.inl ⟨by rfl, ?_⟩) (by assumption) ?_
            rotate_left 1
            · intro w' hSw
              try dsimp only at hSw
              go_simp
              try with_reducible rfl
            try simp only [List.getElem_toArray, List.getElem_cons_zero, List.getElem_cons_succ, Act.put, List.setIfInBounds_toArray, List.set_cons_zero, List.set_cons_succ]
            refine late.take (i := 10) [11, 12, 13] (v := ?_) rfl (by kernel_rfl) (by kernel_rfl) (by kernel_rfl) (by kernel_rfl) (fun _ _ _ h => h) (Or.inl ⟨by rfl, ?_⟩) (by assumption) ?_
            rotate_left 1
            · intro w' hSw
              try dsimp only at hSw
              go_simp
              try with_reducible rfl
            try simp only [List.getElem_toArray, List.getElem_cons_zero, List.getElem_cons_succ, Act.put, List.setIfInBounds_toArray, List.set_cons_zero, List.set_cons_succ]
            refine late.take (i := 11) [12, 13] (v := ?_) rfl (by kernel_rfl) (by kernel_rfl) (by kernel_rfl) (by kernel_rfl) (fun _ _ _ h => h) (Or.inl ⟨by rfl, ?_⟩) (by assumption) ?_
            rotate_left 1
            · intro w' hSw
              try dsimp only at hSw
              go_simp
              try with_reducible rfl
            try simp only [List.getElem_toArray, List.getElem_cons_zero, List.getElem_cons_succ, Act.put, List.setIfInBounds_toArray, List.set_cons_zero, List.set_cons_succ]
            refine late.take (i := 12) [13] (v := ?_) rfl (by kernel_rfl) (by kernel_rfl) (by kernel_rfl) (by kernel_rfl) (fun _ _ _ h => h) (Or.inl ⟨by rfl, ?_⟩) (by assumption) ?_
            rotate_left 1
            · intro w' hSw
              try dsimp only at hSw
              go_simp
              try with_reducible rfl
            try simp only [List.getElem_toArray, List.getElem_cons_zero, List.getElem_cons_succ, Act.put, List.setIfInBounds_toArray, List.set_cons_zero, List.set_cons_succ]
            refine late.ready (rs := [13]) (by kernel_rfl) (by simp) ?_
            refine late.Each.cons rfl (fun K hK => ?_) late.Each.nil
            try simp only [List.getElem_toArray, List.getElem_cons_zero, List.getElem_cons_succ]
            go_simp
            have hk6 := HQ6.out _ hot.out
            have x0 := hk6.c0
            have x1 := hk6.c1
            have e0 := (hk6.rL i h8).1
            have e1 := (hk6.rL i h8).2
            have hk7 := hk6.setL i h8 (mN i) HMN.out
            rw [HS1.out] at hk7
            have HK7 := Lib.hid hk7
            have HO7 : Hid (Only (Dd4 q bL bN bD) wx (z0.setCell ⟨bL, i, none⟩ (.string s1))) := Lib.hid ((hot.out.mono (fun _ _ f => f.elim)).trans ((Only.refl _ z0).setCell (p := ⟨bL, i, none⟩) (.inl (.inr (.inl rfl))) _))
            clear hk6 hk7
            go_simp
            refine hK.out _ _ (fun _ => ⟨HK7.out.c0, HK7.out.c1, (HK7.out.rN i h8).1.trans (by rw [HS1.out])⟩) (fun hHeld1 => ?_)
            replace hHeld1 := hHeld1 rfl
            clear hK K
            clear x0 x1 e0 e1
            try simp only [List.getElem_toArray, List.getElem_cons_zero, List.getElem_cons_succ, Act.put, List.setIfInBounds_toArray, List.set_cons_zero, List.set_cons_succ]
            refine late.done (by kernel_rfl) ?_ _
            refine NoPanic.normal ?_
            clear hHeld hHeld1
            obtain ⟨wy, hwy⟩ : ∃ y, y = z0.setCell ⟨bL, i, none⟩ (.string s1) := ⟨_, rfl⟩
            rw [← hwy] at HK7 HO7
            try simp only [← hwy]
            clear hwy hot HQ6
            obtain ⟨la, hla⟩ : ∃ f, f = updL (midA true kl La No Di i) i (mN i) := ⟨_, rfl⟩
            have hlai : la i = mN i := by rw [hla]; unfold updL; rw [if_pos rfl]
            have hmi : mN i = No i := by rw [HMM.out]; unfold midM; rw [if_neg (by omega)]
            have HFN : Hid (∀ w', DdAt w' q bL bN bD n cL cN cD la (updL mN i (la i)) (updB mD i false) armed off → DdAt w' q bL bN bD n cL cN cD (midA true kl La No Di (i + 1)) (midM true kl La No Di (i + 1)) (midD Di (i + 1)) armed off) := Lib.hid (fun w' h => by
              have hn := HNW.out
              rw [hlai, hmi, hla, hmi, HMM.out, HMD.out, midA_yes hn, midM_next (l := No i) hn, midD_next] at h
              exact h)
            have HLA : Hid ((la i).length = 64 ∧ ∀ c ∈ la i, c < 256) := Lib.hid (by rw [hlai]; exact HMN.out)
            have HQ8 : Hid (∀ w', Only (fun _ => False) wy w' → DdAt w' q bL bN bD n cL cN cD la mN mD armed off) := Lib.hid (fun w' ho => by rw [hla]; exact HK7.out.quiet ho)
            obtain ⟨s2, hs2⟩ : ∃ x, strN (la i) = x := ⟨_, rfl⟩
            have HS2 := Lib.hid hs2
            have HXY := Lib.hid (HX.out.trans HO7.out)
            clear hmi HK7 HO7 HX HS1
            go_upto_region 8 with fail
            clear hla hlai hs2 HNW HMM HMD HDW HMN HKB
            refine wp_region_noPanic ?_
            refine late.region (fun w' => w'.cell? ⟨q, 0, none⟩ = some (.slice (some ⟨bL, 0, none⟩) n cL) ∧ w'.cell? ⟨q, 1, none⟩ = some (.slice (some ⟨bN, 0, none⟩) n cN) ∧ w'.cell? ⟨q, 2, none⟩ = some (.slice (some ⟨bD, 0, none⟩) n cD) ∧ w'.cell? ⟨bL, i, none⟩ = some (.string s2)) (fun j => [].contains j) (by kernel_rfl) (⟨(HQ8.out _ (Only.refl _ _).drew).c0, (HQ8.out _ (Only.refl _ _).drew).c1, (HQ8.out _ (Only.refl _ _).drew).c2, ((HQ8.out _ (Only.refl _ _).drew).rL i h8).1.trans (by rw [HS2.out])⟩) (fun hHeld => ?_)
            obtain ⟨z0, hz0'⟩ : ∃ x, x = wy.drew := ⟨_, rfl⟩
            rw [← hz0'] at hHeld ⊢
            have hot : Hid (Only (fun _ => False) wy z0) := Lib.hid (by rw [hz0']; exact (Only.refl _ _).drew)
            clear hz0'
            refine late.take (i := 0) [1, 2, 3, 17, 18, 19, 20] (v := ?_) rfl (by kernel_rfl) (by kernel_rfl) (by kernel_rfl) (by kernel_rfl) (fun _ _ _ h => h) (Or.inl ⟨by rfl, ?_⟩) (by assumption) ?_
            rotate_left 1
            · intro w' hSw
              try dsimp only at hSw
              go_simp
              try with_reducible rfl
            try simp only [List.getElem_toArray, List.getElem_cons_zero, Act.put, List.setIfInBounds_toArray, List.set_cons_zero, List.set_cons_succ]
            refine late.take (i := 1) [2, 3, 17, 18, 19, 20] (v := ?_) rfl (by kernel_rfl) (by kernel_rfl) (by kernel_rfl) (by kernel_rfl) (fun _ _ _ h => h) (Or.inl ⟨by rfl, ?_⟩) (by assumption) ?_
            rotate_left 1
            · intro w' hSw
              try dsimp only at hSw
              go_simp
              try with_reducible rfl
            try simp only [List.getElem_toArray, List.getElem_cons_zero, List.getElem_cons_succ, Act.put, List.setIfInBounds_toArray, List.set_cons_zero, List.set_cons_succ]
            refine late.take (i := 2) [3, 17, 18, 19, 20] (v := ?_) rfl (by kernel_rfl) (by kernel_rfl) (by kernel_rfl) (by kernel_rfl) (fun _ _ _ h => h) (Or.inl ⟨by rfl, ?_⟩) (by assumption) ?_
            rotate_left 1
            · intro w' hSw
              try dsimp only at hSw
              go_simp
              try with_reducible rfl
            try simp only [List.getElem_toArray, List.getElem_cons_zero, List.getElem_cons_succ, Act.put, List.setIfInBounds_toArray, List.set_cons_zero, List.set_cons_succ]
            refine late.take (i := 3) [17, 18, 19, 20] (v := ?_) rfl (by kernel_rfl) (by kernel_rfl) (by kernel_rfl) (by kernel_rfl) (fun _ _ _ h => h) (Or.inl ⟨by rfl, ?_⟩) (by assumption) ?_
            rotate_left 1
            · intro w' hSw
              try dsimp only at hSw
              go_simp
              try with_reducible rfl
            try simp only [List.getElem_toArray, List.getElem_cons_zero, List.getElem_cons_succ, Act.put, List.setIfInBounds_toArray, List.set_cons_zero, List.set_cons_succ]
            refine late.take (i := 4) [17, 18, 19, 20] (v := ?_) rfl (by kernel_rfl) (by kernel_rfl) (by kernel_rfl) (by kernel_rfl) (fun _ _ _ h => h) (Or.inl ⟨by rfl, ?_⟩) (by assumption) ?_
            rotate_left 1
            · intro w' hSw
              try dsimp only at hSw
              go_simp
              try with_reducible rfl
            try simp only [List.getElem_toArray, List.getElem_cons_zero, List.getElem_cons_succ, Act.put, List.setIfInBounds_toArray, List.set_cons_zero, List.set_cons_succ]
            refine late.take (i := 5) [6, 7, 8, 17, 18, 19, 20] (v := ?_) rfl (by kernel_rfl) (by kernel_rfl) (by kernel_rfl) (by kernel_rfl) (fun _ _ _ h => h) (Or.inl ⟨by rfl, ?_⟩) (by assumption) ?_
            rotate_left 1
            · intro w' hSw
              try dsimp only at hSw
              go_simp
              try with_reducible rfl
            try simp only [List.getElem_toArray, List.getElem_cons_zero, List.getElem_cons_succ, Act.put, List.setIfInBounds_toArray, List.set_cons_zero, List.set_cons_succ]
            refine late.take (i := 6) [7, 8, 17, 18, 19, 20] (v := ?_) rfl (by kernel_rfl) (by kernel_rfl) (by kernel_rfl) (by kernel_rfl) (fun _ _ _ h => h) (Or.inl ⟨by rfl, ?_⟩) (by assumption) ?_
            rotate_left 1
            · intro w' hSw
              try dsimp only at hSw
              go_simp
              try with_reducible rfl
            try simp only [List.getElem_toArray, List.getElem_cons_zero, List.getElem_cons_succ, Act.put, List.setIfInBounds_toArray, List.set_cons_zero, List.set_cons_succ]
            refine late.take (i := 7) [8, 17, 18, 19, 20] (v := ?_) rfl (by kernel_rfl) (by kernel_rfl) (by kernel_rfl) (by kernel_rfl) (fun _ _ _ h => h) (Or.inl ⟨by rfl, ?_⟩) (by assumption) ?_
            rotate_left 1
            · intro w' hSw
              try dsimp only at hSw
              go_simp
              try with_reducible rfl
            try simp only [List.getElem_toArray, List.getElem_cons_zero, List.getElem_cons_succ, Act.put, List.setIfInBounds_toArray, List.set_cons_zero, List.set_cons_succ]
            refine late.take (i := 8) [17, 18, 19, 20] (v := ?_) rfl (by kernel_rfl) (by kernel_rfl) (by kernel_rfl) (by kernel_rfl) (fun _ _ _ h => h) (Or.inl ⟨by rfl, ?_⟩) (by assumption) ?_
            rotate_left 1
            · intro w' hSw
              try dsimp only at hSw
              go_simp
              try with_reducible rfl
            try simp only [List.getElem_toArray, List.getElem_cons_zero, List.getElem_cons_succ, Act.put, List.setIfInBounds_toArray, List.set_cons_zero, List.set_cons_succ]
            refine late.take (i := 9) [19, 20] (v := ?_) rfl (by kernel_rfl) (by kernel_rfl) (by kernel_rfl) (by kernel_rfl) (fun _ _ _ h => h) (Or.inl ⟨by rfl, ?_⟩) (by assumption) ?_
            rotate_left 1
            · intro w' hSw
              try dsimp only at hSw
              go_simp
              try with_reducible rfl
            try simp only [List.getElem_toArray, List.getElem_cons_zero, List.getElem_cons_succ, Act.put, List.setIfInBounds_toArray, List.set_cons_zero, List.set_cons_succ]
            refine late.take (i := 10) [11, 12, 13, 15, 16, 17, 18, 19, 20] (v := ?_) rfl (by kernel_rfl) (by kernel_rfl) (by kernel_rfl) (by kernel_rfl) (fun _ _ _ h => h) (Or.inl ⟨by rfl, ?_⟩) (by assumption) ?_
            rotate_left 1
            · intro w' hSw
              try dsimp only at hSw
              go_simp
              try with_reducible rfl
            try simp only [List.getElem_toArray, List.getElem_cons_zero, List.getElem_cons_succ, Act.put, List.setIfInBounds_toArray, List.set_cons_zero, List.set_cons_succ]
            refine late.take (i := 11) [12, 13, 15, 16, 17, 18, 19, 20] (v := ?_) rfl (by kernel_rfl) (by kernel_rfl) (by kernel_rfl) (by kernel_rfl) (fun _ _ _ h => h) (Or.inl ⟨by rfl, ?_⟩) (by assumption) ?_
            rotate_left 1
            · intro w' hSw
              try dsimp only at hSw
              go_simp
              try with_reducible rfl
            try simp only [List.getElem_toArray, List.getElem_cons_zero, List.getElem_cons_succ, Act.put, List.setIfInBounds_toArray, List.set_cons_zero, List.set_cons_succ]
            refine late.take (i := 12) [13, 15, 16, 17, 18, 19, 20] (v := ?_) rfl (by kernel_rfl) (by kernel_rfl) (by kernel_rfl) (by kernel_rfl) (fun _ _ _ h => h) (Or.inl ⟨by rfl, ?_⟩) (by assumption) ?_
            rotate_left 1
            · intro w' hSw
              try dsimp only at hSw
              go_simp
              try with_reducible rfl
            try simp only [List.getElem_toArray, List.getElem_cons_zero, List.getElem_cons_succ, Act.put, List.setIfInBounds_toArray, List.set_cons_zero, List.set_cons_succ]
            refine late.take (i := 13) [15, 16, 17, 18, 19, 20] (v := ?_) rfl (by kernel_rfl) (by kernel_rfl) (by kernel_rfl) (by kernel_rfl) (fun _ _ _ h => h) (Or.inl ⟨by rfl, ?_⟩) (by assumption) ?_
            rotate_left 1
            · intro w' hSw
              try dsimp only at hSw
              go_simp
              try with_reducible rfl
            try simp only [List.getElem_toArray, List.getElem_cons_zero, List.getElem_cons_succ, Act.put, List.setIfInBounds_toArray, List.set_cons_zero, List.set_cons_succ]
            refine late.take (i := 14) [15, 16, 17, 18, 19, 20] (v := ?_) rfl (by kernel_rfl) (by kernel_rfl) (by kernel_rfl) (by kernel_rfl) (fun _ _ _ h => h) (Or.inl ⟨by rfl, ?_⟩) (by assumption) ?_
            rotate_left 1
            · intro w' hSw
              try dsimp only at hSw
              go_simp
              try with_reducible rfl
            try simp only [List.getElem_toArray, List.getElem_cons_zero, List.getElem_cons_succ, Act.put, List.setIfInBounds_toArray, List.set_cons_zero, List.set_cons_succ]
            refine late.take (i := 15) [16, 17, 18, 19, 20] (v := ?_) rfl (by kernel_rfl) (by kernel_rfl) (by kernel_rfl) (by kernel_rfl) (fun _ _ _ h => h) (Or.inl ⟨by rfl, ?_⟩) (by assumption) ?_
            rotate_left 1
            · intro w' hSw
              try dsimp only at hSw
              go_simp
              try with_reducible rfl
            try simp only [List.getElem_toArray, List.getElem_cons_zero, List.getElem_cons_succ, Act.put, List.setIfInBounds_toArray, List.set_cons_zero, List.set_cons_succ]
            refine late.take (i := 16) [17, 18, 19, 20] (v := ?_) rfl (by kernel_rfl) (by kernel_rfl) (by kernel_rfl) (by kernel_rfl) (fun _ _ _ h => h) (Or.inl ⟨by rfl, ?_⟩) (by assumption) ?_
            rotate_left 1
            · intro w' hSw
              try dsimp only at hSw
              go_simp
              try with_reducible rfl
            try simp only [List.getElem_toArray, List.getElem_cons_zero, List.getElem_cons_succ, Act.put, List.setIfInBounds_toArray, List.set_cons_zero, List.set_cons_succ]
            refine late.take (i := 17) [18, 19, 20] (v := ?_) rfl (by kernel_rfl) (by kernel_rfl) (by kernel_rfl) (by kernel_rfl) (fun _ _ _ h => h) (Or.inl ⟨by rfl, ?_⟩) (by assumption) ?_
            rotate_left 1
            · intro w' hSw
              try dsimp only at hSw
              go_simp
              try with_reducible rfl
            try simp only [List.getElem_toArray, List.getElem_cons_zero, List.getElem_cons_succ, Act.put, List.setIfInBounds_toArray, List.set_cons_zero, List.set_cons_succ]
            refine late.ready (rs := [18]) (by kernel_rfl) (by simp) ?_
            refine late.Each.cons rfl (fun K hK => ?_) late.Each.nil
            try simp only [List.getElem_toArray, List.getElem_cons_zero, List.getElem_cons_succ]
            go_simp
            have hk8 := HQ8.out _ hot.out
            have x0 := hk8.c0
            have x1 := hk8.c1
            have e0 := (hk8.rN i h8).1
            have e1 := (hk8.rN i h8).2
            have hk9 := hk8.setN i h8 (la i) HLA.out
            rw [HS2.out] at hk9
            have HK9 := Lib.hid hk9
            have HO9 : Hid (Only (Dd4 q bL bN bD) wy (z0.setCell ⟨bN, i, none⟩ (.string s2))) := Lib.hid ((hot.out.mono (fun _ _ f => f.elim)).trans ((Only.refl _ z0).setCell (p := ⟨bN, i, none⟩) (.inl (.inr (.inr (.inl rfl)))) _))
            clear hk8 hk9
            go_simp
            refine hK.out _ _ (fun _ => ⟨HK9.out.c0, HK9.out.c1, HK9.out.c2, (HK9.out.rL i h8).1.trans (by rw [HS2.out])⟩) (fun hHeld1 => ?_)
            replace hHeld1 := hHeld1 rfl
            clear hK K
            clear x0 x1 e0 e1
            try simp only [List.getElem_toArray, List.getElem_cons_zero, List.getElem_cons_succ, Act.put, List.setIfInBounds_toArray, List.set_cons_zero, List.set_cons_succ]
            refine late.take (i := 19) [20] (v := ?_) rfl (by kernel_rfl) (by kernel_rfl) (by kernel_rfl) (by kernel_rfl) (fun _ _ _ h => h) (Or.inl ⟨by rfl, ?_⟩) (by assumption) ?_
            rotate_left 1
            · intro w' hSw
              try dsimp only at hSw
              go_simp
              try with_reducible rfl
            try simp only [List.getElem_toArray, List.getElem_cons_zero, List.getElem_cons_succ, Act.put, List.setIfInBounds_toArray, List.set_cons_zero, List.set_cons_succ]
            refine late.ready (rs := [20]) (by kernel_rfl) (by simp) ?_
            refine late.Each.cons rfl (fun K hK => ?_) late.Each.nil
            try simp only [List.getElem_toArray, List.getElem_cons_zero, List.getElem_cons_succ]
            go_simp
            have x0 := HK9.out.c0
            have x2 := HK9.out.c2
            have e0 := (HK9.out.rD i h8).1
            have e1 := ((HQ8.out _ hot.out).rD i h8).2
            have hk10 := HK9.out.setD i h8 false
            have HK10 := Lib.hid hk10
            have HO10 : Hid (Only (Dd4 q bL bN bD) wy ((z0.setCell ⟨bN, i, none⟩ (.string s2)).setCell ⟨bD, i, none⟩ (.bool false))) := Lib.hid (HO9.out.trans ((Only.refl _ _).setCell (p := ⟨bD, i, none⟩) (.inl (.inr (.inr (.inr rfl)))) _))
            clear hk10
            go_simp
            refine hK.out _ _ (fun _ => ⟨HK10.out.c0, HK10.out.c1, HK10.out.c2, (HK10.out.rL i h8).1.trans (by rw [HS2.out])⟩) (fun hHeld2 => ?_)
            replace hHeld2 := hHeld2 rfl
            clear hK K
            clear x0 x2 e0 e1
            try simp only [List.getElem_toArray, List.getElem_cons_zero, List.getElem_cons_succ, Act.put, List.setIfInBounds_toArray, List.set_cons_zero, List.set_cons_succ]
            refine late.done (by kernel_rfl) ?_ _
            refine NoPanic.normal ?_
            clear hHeld
            obtain ⟨wz, hwz⟩ : ∃ y, y = (z0.setCell ⟨bN, i, none⟩ (.string s2)).setCell ⟨bD, i, none⟩ (.bool false) := ⟨_, rfl⟩
            rw [← hwz] at HK10 HO10
            try simp only [← hwz]
            have HNX : Hid (DdAt wz q bL bN bD n cL cN cD (midA true kl La No Di (i + 1)) (midM true kl La No Di (i + 1)) (midD Di (i + 1)) armed off) := Lib.hid (HFN.out _ HK10.out)
            have HXN : Hid (Only (Dd4 q bL bN bD) w wz) := Lib.hid (HXY.out.trans HO10.out)
            clear hwz hot HQ8 HK9 HK10 HO9 HO10
            go_wp2_with fail
            go_roundw
            case rel => exact ⟨i + 1, by omega, by go_num, (by rw [HC1.out]; go_num), HNX, HXN⟩
            case measure => (simp [intOf]; omega)
    · have hin : ¬ (i : Int) < (n : Int) := by omega
      obtain rfl : n = i := by omega
      have HE : Hid (DdAt wx q bL bN bD n cL cN cD (midA all kl La No Di n) (midM all kl La No Di n) (midD Di n) armed off) := HDW
      go_wp2_with fail
      go_end0
      exact ⟨rfl, HE.out, HX.out⟩
end Go.Proofs.Ytodmfljhojdbkaa.dskw
