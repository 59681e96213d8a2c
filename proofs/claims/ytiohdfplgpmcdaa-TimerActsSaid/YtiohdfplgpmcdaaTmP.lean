/- Timers: the document's Set. -/
import Derived.Test.YtiohdfplgpmcdaaTmO
import Derived.Test.YtiohdfplgpmcdaaHeldL
namespace Go.Proofs.Ytiohdfplgpmcdaa.tmw
open Go.RowKit mem rowz
set_option linter.unusedVariables false

theorem OwnO.only {S : Nat → Prop} {w w' : World} {v : Value} {l : List Tm} (h : OwnO w v l) (ho : Only S w w') (hs : ∀ k, v.ownBlock = some k → ¬ S k) : OwnO w' v l := owns_only ho h hs
theorem OwnO.lt {w : World} {v : Value} {l : List Tm} (h : OwnO w v l) {q : Nat} (hq : v.ownBlock = some q) : q < w.heap.size := by
  rcases h.2 with ⟨hv, hn⟩ | ⟨g, cap, cur, hv, hg, hh, _⟩
  · rw [hv] at hq; simp [Value.ownBlock] at hq
  · rw [hv] at hq
    have e : g = q := by simpa [Value.ownBlock] using hq
    rw [← e]; exact heap_lt hh
theorem reads_oneO {w : World} {b : Nat} {a i : Int} (h0 : w.cell? ⟨b, 0, none⟩ = some (.int .i64 i)) (h1 : w.cell? ⟨b, 1, none⟩ = some (.int .i64 a)) : ReadsO w (some ⟨b, 0, none⟩) 1 [(⟨a, i⟩ : Tm)] :=
  ⟨rfl, .inr ⟨b, 0, rfl, fun k hk => by
    obtain rfl : k = 0 := by omega
    exact ⟨h0, h1⟩⟩⟩
/-- what Set answers -/
def PutU (p : Nat) (at_ g : Int) (l : List Tm) (w : World) (e : Ending) (w' : World) : Prop :=
  e = .returned (.int .i64 0) ∧ (∃ a' c', UAt w' p a' c' (insM ⟨at_, g⟩ l) ∧ ∀ y, a' = some y → w.heap.size ≤ y.block) ∧ Only (fun q => q = p) w w'
/-- what Set answers from here -/
def SetU (p : Nat) (at_ g : Int) (m : List Tm) (w : World) (e : Ending) (w' : World) : Prop :=
  e = .returned (.int .i64 0) ∧ (∃ a' c', UAt w' p a' c' (insM ⟨at_, g⟩ m) ∧ ∀ y, a' = some y → w.heap.size ≤ y.block) ∧ Only (fun q => q = p) w w'
theorem ins_of {m : List Tm} {k n : Nat} {x : Tm} (hn : n = m.length) (hs : m.Pairwise ltM) (hk : k ≤ n) (h1 : ∀ j, j < k → ltM (m.getD j default) x) (h2 : k = n ∨ ¬ ltM (m.getD k default) x) : m.take k ++ x :: m.drop k = insM x m := by
  refine ins_at x m k (by omega) h1 fun j hj hl h => ?_
  rcases h2 with h2 | h2
  · omega
  · by_cases e : j = k
    · rw [e] at h; exact h2 h
    · exact h2 (ltM_trans (pw_get hs (show k < j by omega) hl) h)
set_option maxRecDepth 100000 in
set_option maxHeartbeats 40000000 in
theorem rset_any (p : Nat) (a : Option Addr) (c : Nat) (m : List Tm) (at_ g : Int) (w : World) (h : UAt w p a c m) (hs : m.Pairwise ltM) (hl : m.length ≤ 900) (hx : InT ⟨at_, g⟩) :
    Calls Try.prog 17 #[.pointer (some ⟨p, 0, none⟩), .int .i64 g, .int .i64 at_] w (PutU p at_ g (remM g m) w) := by
  obtain ⟨⟨x1, x2⟩, x3, x4⟩ := hx
  dsimp only at x1 x2 x3 x4
  have g1 : ¬ g < 1 := by omega
  have g2 : ¬ 4611686018427387904 < g := by omega
  have g3 : ¬ at_ < 0 := by omega
  have g4 : ¬ 4611686018427387904 < at_ := by omega
  clear x1 x2 x3 x4
  have HF := Lib.hid (rfind_any p a c m g w h)
  have HU := Lib.hid h
  have HS := Lib.hid (hs.sublist (remM_sub g m))
  have HR0 := Lib.hid (rem_le g m)
  have hc00 := h.1
  obtain ⟨n0, hn0⟩ : ∃ n0, n0 = m.length := ⟨_, rfl⟩
  rw [← hn0] at hl hc00
  have HN0 := Lib.hid hn0
  clear h hs hn0
  generalize mIdx g 0 m = ix at HF
  obtain ⟨l, hl0⟩ : ∃ l, l = remM g m := ⟨_, rfl⟩
  rw [← hl0] at HS HR0 ⊢
  have HL0 := Lib.hid hl0
  clear hl0
  go_enter Try.func17, Try.ntmps17
  go_upto_region 3 with fail
  go_cut [33] from 22 to 32 (fun vb wx => vb = .bool false ∧ Hid (Only (fun _ => False) w wx))
  case first =>
    go_wp2_with fail
    refine HF.out.mono ?_
    rintro _ w1 ⟨rfl, k1⟩
    have KE := Lib.hid k1
    have hc01 := k1.cell' hc00 (fun f => f)
    clear k1 HF
    have hfull : ¬ (1024 : Int) ≤ n0 := by omega
    go_wp2_with fail
    all_goals
      go_meet
      exact ⟨by first | rfl | rw [decide_eq_false (show ¬ (1024 : Int) ≤ n0 by omega)], KE⟩
  case rest =>
    rename World => w1
    obtain ⟨rfl, HO1⟩ := hcut
    have HDR := Lib.hid (rdrop_any p a c m g w1 (HU.out.only HO1.out (fun f => f) (fun _ _ f => f)))
    unfold DropU at HDR
    generalize (if mIdx g 0 m < 0 then (7 : Int) else 0) = dr at HDR
    go_wp2_with fail
    refine HDR.out.mono ?_
    rintro _ w2 ⟨rfl, ⟨a1, c1, hu, hab⟩, ho⟩
    rw [← HL0.out] at hu
    have HU2 := Lib.hid hu
    have HO2 := Lib.hid (HO1.out.mono (fun _ _ f => f.elim) |>.trans ho)
    clear hu hab ho HDR
    have HQ0 : Hid (∀ e w', Only (fun q => q = p) w w2 → SetU p at_ g l w2 e w' → PutU p at_ g l w e w') := Lib.hid fun e w' h0 h => ⟨h.1, by
      obtain ⟨a', c', h3, h4⟩ := h.2.1
      exact ⟨a', c', h3, fun y e => by have := h4 y e; have := h0.size; omega⟩, h0.trans h.2.2⟩
    have HM9 : Hid (l.length ≤ 900) := Lib.hid (by have := HR0.out; have := HN0.out; omega)
    clear HU HN0 HR0 hc00 hl HF HO1
    obtain ⟨n, hn⟩ : ∃ n, n = l.length := ⟨_, rfl⟩
    obtain ⟨u1, u2, u3, u4, u5, u6, u7, u8⟩ := HU2.out
    rw [← hn] at u1 u3 u5
    have hn9 : n ≤ 900 := by have := HM9.out; omega
    unfold maxLen at u6
    have HN := Lib.hid hn
    have HU1 := Lib.hid u1
    have HUF := Lib.hid u2
    have HRD := Lib.hid u3
    have HA8 := Lib.hid u8
    clear u1 u2 u3 u4 u7 u8 hn
    go_upto_block 0 with fail
    go_cut [7] from 37 to 81 (fun kv wx => ∃ k : Nat, k ≤ n ∧ kv = .int .i64 k ∧ Hid (wx = w2) ∧ Hid (∀ j, j < k → ltM (l.getD j default) ⟨at_, g⟩) ∧ Hid (k = n ∨ ¬ ltM (l.getD k default) ⟨at_, g⟩))
    case first =>
      go_wp2_with fail
      go_loopw [7] (fun kv wr => ∃ k : Nat, k ≤ n ∧ kv = .int .i64 k ∧ Hid (wr = w2) ∧ Hid (∀ j, j < k → ltM (l.getD j default) ⟨at_, g⟩)) (fun kv _ => n - (intOf kv).toNat)
      case atStart => exact ⟨0, by omega, rfl, Lib.hid rfl, Lib.hid (fun j hj => by omega)⟩
      case round =>
        obtain ⟨k, hk, rfl, HWR, HLT⟩ := hrel
        obtain rfl := HWR.out
        clear HWR
        have c0 := HU1.out
        by_cases h8 : k < n
        · obtain ⟨b, off, rfl, hcell⟩ := HRD.out.2.resolve_left (by omega)
          obtain ⟨q0, q1⟩ := hcell k h8
          have HXL : Hid (l.getD k default = ⟨(l.getD k default).a, (l.getD k default).i⟩) := Lib.hid rfl
          generalize (l.getD k default).a = ya at *
          generalize (l.getD k default).i = yi at *
          have kl : (k : Int) < n := by omega
          have k0 : (0 : Int) ≤ k := by omega
          clear hcell
          have HNX : Hid (ltM ⟨ya, yi⟩ ⟨at_, g⟩ → ∀ j, j < k + 1 → ltM (l.getD j default) ⟨at_, g⟩) := Lib.hid (fun h j hj => by
            by_cases e : j = k
            · rw [e, HXL.out]; exact h
            · exact HLT.out j (by omega))
          have HEX : Hid (¬ ltM ⟨ya, yi⟩ ⟨at_, g⟩ → k = n ∨ ¬ ltM (l.getD k default) ⟨at_, g⟩) := Lib.hid (fun h => .inr (by rw [HXL.out]; exact h))
          by_cases h1 : ya < at_
          · have HL2 := Lib.hid (HNX.out (.inl h1))
            go_wp2_with fail
            go_roundw
            case rel => exact ⟨k + 1, by omega, by go_num, (by first | exact Lib.hid rfl | exact Lib.hid trivial), HL2⟩
            case measure => simp [intOf]; omega
          · by_cases h2 : ya = at_
            · have h2b : (ya == at_) = true := by simpa using h2
              by_cases h3 : yi < g
              · have HL2 := Lib.hid (HNX.out (.inr ⟨h2, h3⟩))
                clear h2
                go_wp2_with fail
                go_roundw
                case rel => exact ⟨k + 1, by omega, by go_num, (by first | exact Lib.hid rfl | exact Lib.hid trivial), HL2⟩
                case measure => simp [intOf]; omega
              · have HE2 := Lib.hid (HEX.out (fun h => by unfold ltM at h; dsimp only at h; omega))
                clear h2
                go_wp2_with fail
                go_meet
                exact ⟨k, hk, rfl, (by first | exact Lib.hid rfl | exact Lib.hid trivial), HLT, HE2⟩
            · have h2b : (ya == at_) = false := by simpa using h2
              have HE2 := Lib.hid (HEX.out (fun h => by unfold ltM at h; dsimp only at h; omega))
              clear h2
              go_wp2_with fail
              go_meet
              exact ⟨k, hk, rfl, (by first | exact Lib.hid rfl | exact Lib.hid trivial), HLT, HE2⟩
        · obtain rfl : k = n := by omega
          go_wp2_with fail
          go_meet
          exact ⟨k, hk, rfl, (by first | exact Lib.hid rfl | exact Lib.hid trivial), HLT, Lib.hid (.inl rfl)⟩
    case rest =>
      obtain ⟨k, hk, rfl, HWR, HLT, HEX⟩ := hcut
      rename World => wr
      obtain rfl := HWR.out
      clear HWR
      have HINS := Lib.hid (ins_of HN.out HS.out hk HLT.out HEX.out)
      have k0 : (0 : Int) ≤ k := by omega
      have kn : (k : Int) ≤ n := by omega
      have HPW : Hid (p < wr.heap.size) := Lib.hid (World.block_lt_of_cell? wr _ HU1.out)
      have hpw := HPW.out
      have hl9 : l.length ≤ 900 := HM9.out
      have kc : k ≤ c1 := by omega
      have hc0 := HU1.out
      have hf0 := HUF.out
      have hrd := HRD.out
      have hu8 := HA8.out
      have HQ : Hid (∀ w' a' c', UAt w' p a' c' (insM ⟨at_, g⟩ l) → (∀ y, a' = some y → wr.heap.size ≤ y.block) → Only (fun q => q = p) wr w' → PutU p at_ g l w (.returned (.int .i64 0)) w') := Lib.hid fun w' a' c' hu hb ho => HQ0.out _ w' HO2.out ⟨rfl, ⟨a', c', hu, hb⟩, ho⟩
      clear HQ0 HO2 HU1 HUF HRD HA8 HU2 HM9 HL0 HS HLT HEX
      have HT0 : Hid (∀ ad w', ReadsO w' ad 0 []) := Lib.hid fun ad w' => ⟨rfl, .inl rfl⟩
      by_cases hz : n = 0
      · subst hz
        obtain rfl : k = 0 := by omega
        have HI0 : Hid (insM ⟨at_, g⟩ l = [⟨at_, g⟩]) := Lib.hid (by rw [List.eq_nil_of_length_eq_zero (show l.length = 0 by have := HN.out; omega)]; rfl)
        clear HINS
        rcases a1 with _ | y
        · have hc10 : c1 = 0 := hu8 rfl
          subst hc10
          clear hrd hu8
          go_upto_region 9 with fail
          refine wp_region_noPanic ?_
          refine late.region (fun w' => w'.cell? ⟨p, 0, none⟩ = wr.cell? ⟨p, 0, none⟩) (fun j => [23].contains j) (by kernel_rfl) (((Only.refl (fun _ => False) wr).drew.cell' hc0 (fun f => f)).trans hc0.symm) (fun hHeld => ?_)
          obtain ⟨u0, hu0⟩ : ∃ x, x = wr.drew := ⟨_, rfl⟩
          rw [← hu0] at hHeld ⊢
          have hot : Hid (Only (fun _ => False) wr u0) := Lib.hid (by rw [hu0]; exact (Only.refl _ _).drew)
          have hcu := hot.out.cell' hc0 (fun f => f)
          clear hu0
          refine late.take (i := 0) [21, 22, 23] (v := ?_) rfl (by kernel_rfl) (by kernel_rfl) (by kernel_rfl) (by kernel_rfl) (fun _ _ _ h => h) (Or.inl ⟨by rfl, ?_⟩) (by assumption) ?_
          rotate_left 1
          · intro w' hSw
            try dsimp only at hSw
            go_simp
            try with_reducible rfl
          try simp only [List.getElem_toArray, List.getElem_cons_zero, Act.put, List.setIfInBounds_toArray, List.set_cons_zero, List.set_cons_succ]
          refine late.take (i := 2) [3, 4, 5, 7, 8, 13, 20, 21, 22, 23] (v := ?_) rfl (by kernel_rfl) (by kernel_rfl) (by kernel_rfl) (by kernel_rfl) (fun _ _ _ h => h) (Or.inl ⟨by rfl, ?_⟩) (by assumption) ?_
          rotate_left 1
          · intro w' hSw
            try dsimp only at hSw
            go_simp
            try with_reducible rfl
          try simp only [List.getElem_toArray, List.getElem_cons_zero, List.getElem_cons_succ, Act.put, List.setIfInBounds_toArray, List.set_cons_zero, List.set_cons_succ]
          refine late.take (i := 3) [4, 5, 7, 8, 13, 20, 21, 22, 23] (v := ?_) rfl (by kernel_rfl) (by kernel_rfl) (by kernel_rfl) (by kernel_rfl) (fun _ _ _ h => h) (Or.inl ⟨by rfl, ?_⟩) (by assumption) ?_
          rotate_left 1
          · intro w' hSw
            try dsimp only at hSw
            go_simp
            try with_reducible rfl
          try simp only [List.getElem_toArray, List.getElem_cons_zero, List.getElem_cons_succ, Act.put, List.setIfInBounds_toArray, List.set_cons_zero, List.set_cons_succ]
          refine late.take (i := 4) [5, 7, 8, 13, 20, 21, 22, 23] (v := ?_) rfl (by kernel_rfl) (by kernel_rfl) (by kernel_rfl) (by kernel_rfl) (fun _ _ _ h => h) (Or.inl ⟨by rfl, ?_⟩) (by assumption) ?_
          rotate_left 1
          · intro w' hSw
            try dsimp only at hSw
            go_simp
            try with_reducible rfl
          try simp only [List.getElem_toArray, List.getElem_cons_zero, List.getElem_cons_succ, Act.put, List.setIfInBounds_toArray, List.set_cons_zero, List.set_cons_succ]
          refine late.take (i := 5) [7, 8, 13, 20, 21, 22, 23] (v := ?_) rfl (by kernel_rfl) (by kernel_rfl) (by kernel_rfl) (by kernel_rfl) (fun _ _ _ h => h) (Or.inl ⟨by rfl, ?_⟩) (by assumption) ?_
          rotate_left 1
          · intro w' hSw
            try dsimp only at hSw
            go_simp
            try with_reducible rfl
          try simp only [List.getElem_toArray, List.getElem_cons_zero, List.getElem_cons_succ, Act.put, List.setIfInBounds_toArray, List.set_cons_zero, List.set_cons_succ]
          refine late.take (i := 6) [7, 8, 13, 20, 21, 22, 23] (v := ?_) rfl (by kernel_rfl) (by kernel_rfl) (by kernel_rfl) (by kernel_rfl) (fun _ _ _ h => h) (Or.inl ⟨by rfl, ?_⟩) (by assumption) ?_
          rotate_left 1
          · intro w' hSw
            try dsimp only at hSw
            go_simp
            try with_reducible rfl
          try simp only [List.getElem_toArray, List.getElem_cons_zero, List.getElem_cons_succ, Act.put, List.setIfInBounds_toArray, List.set_cons_zero, List.set_cons_succ]
          refine late.take (i := 7) [8, 13, 20, 21, 22, 23] (v := ?_) rfl (by kernel_rfl) (by kernel_rfl) (by kernel_rfl) (by kernel_rfl) (fun _ _ _ h => h) (Or.inl ⟨by rfl, ?_⟩) (by assumption) ?_
          rotate_left 1
          · intro w' hSw
            try dsimp only at hSw
            go_simp
            try with_reducible rfl
          try simp only [List.getElem_toArray, List.getElem_cons_zero, List.getElem_cons_succ, Act.put, List.setIfInBounds_toArray, List.set_cons_zero, List.set_cons_succ]
          refine late.take (i := 9) [11, 12, 13, 20, 21, 22, 23] (v := ?_) rfl (by kernel_rfl) (by kernel_rfl) (by kernel_rfl) (by kernel_rfl) (fun _ _ _ h => h) (Or.inl ⟨by rfl, ?_⟩) (by assumption) ?_
          rotate_left 1
          · intro w' hSw
            try dsimp only at hSw
            go_simp
            try with_reducible rfl
          try simp only [List.getElem_toArray, List.getElem_cons_zero, List.getElem_cons_succ, Act.put, List.setIfInBounds_toArray, List.set_cons_zero, List.set_cons_succ]
          refine late.take (i := 10) [11, 12, 13, 20, 21, 22, 23] (v := ?_) rfl (by kernel_rfl) (by kernel_rfl) (by kernel_rfl) (by kernel_rfl) (fun _ _ _ h => h) (Or.inl ⟨by rfl, ?_⟩) (by assumption) ?_
          rotate_left 1
          · intro w' hSw
            try dsimp only at hSw
            go_simp
            try with_reducible rfl
          try simp only [List.getElem_toArray, List.getElem_cons_zero, List.getElem_cons_succ, Act.put, List.setIfInBounds_toArray, List.set_cons_zero, List.set_cons_succ]
          refine late.take (i := 11) [12, 13, 20, 21, 22, 23] (v := ?_) rfl (by kernel_rfl) (by kernel_rfl) (by kernel_rfl) (by kernel_rfl) (fun _ _ _ h => h) (Or.inl ⟨by rfl, ?_⟩) (by assumption) ?_
          rotate_left 1
          · intro w' hSw
            try dsimp only at hSw
            go_simp
            try with_reducible rfl
          try simp only [List.getElem_toArray, List.getElem_cons_zero, List.getElem_cons_succ, Act.put, List.setIfInBounds_toArray, List.set_cons_zero, List.set_cons_succ]
          refine late.take (i := 14) [15, 16, 17, 19, 20, 21, 22, 23] (v := ?_) rfl (by kernel_rfl) (by kernel_rfl) (by kernel_rfl) (by kernel_rfl) (fun _ _ _ h => h) (Or.inl ⟨by rfl, ?_⟩) (by assumption) ?_
          rotate_left 1
          · intro w' hSw
            try dsimp only at hSw
            go_simp
            try with_reducible rfl
          try simp only [List.getElem_toArray, List.getElem_cons_zero, List.getElem_cons_succ, Act.put, List.setIfInBounds_toArray, List.set_cons_zero, List.set_cons_succ]
          refine late.take (i := 15) [16, 17, 19, 20, 21, 22, 23] (v := ?_) rfl (by kernel_rfl) (by kernel_rfl) (by kernel_rfl) (by kernel_rfl) (fun _ _ _ h => h) (Or.inl ⟨by rfl, ?_⟩) (by assumption) ?_
          rotate_left 1
          · intro w' hSw
            try dsimp only at hSw
            go_simp
            try with_reducible rfl
          try simp only [List.getElem_toArray, List.getElem_cons_zero, List.getElem_cons_succ, Act.put, List.setIfInBounds_toArray, List.set_cons_zero, List.set_cons_succ]
          refine late.take (i := 16) [17, 19, 20, 21, 22, 23] (v := ?_) rfl (by kernel_rfl) (by kernel_rfl) (by kernel_rfl) (by kernel_rfl) (fun _ _ _ h => h) (Or.inl ⟨by rfl, ?_⟩) (by assumption) ?_
          rotate_left 1
          · intro w' hSw
            try dsimp only at hSw
            go_simp
            try with_reducible rfl
          try simp only [List.getElem_toArray, List.getElem_cons_zero, List.getElem_cons_succ, Act.put, List.setIfInBounds_toArray, List.set_cons_zero, List.set_cons_succ]
          refine late.take (i := 17) [19, 20, 21, 22, 23] (v := ?_) rfl (by kernel_rfl) (by kernel_rfl) (by kernel_rfl) (by kernel_rfl) (fun _ _ _ h => h) (Or.inl ⟨by rfl, ?_⟩) (by assumption) ?_
          rotate_left 1
          · intro w' hSw
            try dsimp only at hSw
            go_simp
            try with_reducible rfl
          try simp only [List.getElem_toArray, List.getElem_cons_zero, List.getElem_cons_succ, Act.put, List.setIfInBounds_toArray, List.set_cons_zero, List.set_cons_succ]
          refine late.take (i := 18) [19, 20, 21, 22, 23] (v := ?_) rfl (by kernel_rfl) (by kernel_rfl) (by kernel_rfl) (by kernel_rfl) (fun _ _ _ h => h) (Or.inl ⟨by rfl, ?_⟩) (by assumption) ?_
          rotate_left 1
          · intro w' hSw
            try dsimp only at hSw
            go_simp
            try with_reducible rfl
          try simp only [List.getElem_toArray, List.getElem_cons_zero, List.getElem_cons_succ, Act.put, List.setIfInBounds_toArray, List.set_cons_zero, List.set_cons_succ]
          refine late.take (i := 19) [20, 21, 22, 23] (v := ?_) rfl (by kernel_rfl) (by kernel_rfl) (by kernel_rfl) (by kernel_rfl) (fun _ _ _ h => h) (Or.inl ⟨by rfl, ?_⟩) (by assumption) ?_
          rotate_left 1
          · intro w' hSw
            try dsimp only at hSw
            go_simp
            try with_reducible rfl
          try simp only [List.getElem_toArray, List.getElem_cons_zero, List.getElem_cons_succ, Act.put, List.setIfInBounds_toArray, List.set_cons_zero, List.set_cons_succ]
          refine late.ready (rs := [1, 12]) (by kernel_rfl) (by simp) ?_
          refine late.Each.cons rfl (fun K hK => ?_) (late.Each.cons rfl (fun K hK => ?_) late.Each.nil)
          · try simp only [List.getElem_toArray, List.getElem_cons_zero, List.getElem_cons_succ]
            go_simp
            obtain ⟨W1, hW1⟩ : ∃ x, x = u0.alloc (.cells #[] 45) := ⟨_, rfl⟩
            obtain ⟨g1, hg1⟩ : ∃ x, x = u0.heap.size := ⟨_, rfl⟩
            rw [← hW1, ← hg1]
            have hal : Only (fun _ => False) u0 W1 := by rw [hW1]; exact (Only.refl _ _).alloc _
            have HV : Hid (OwnO W1 (.slice (some ⟨g1, 0, none⟩) 0 0) []) := Lib.hid (by rw [hW1, hg1]; exact World.ownsRow_lit u0 #[] 0 (Nat.zero_le _) (by decide) rfl)
            have HB : Hid (∀ q, (Value.slice (some ⟨g1, 0, none⟩) 0 0).ownBlock = some q → wr.heap.size ≤ q) := Lib.hid (fun q e => by
              have e' : g1 = q := by simpa [Value.ownBlock] using e
              have := hot.out.size; omega)
            replace hot : Hid (Only (fun _ => False) wr W1) := Lib.hid (hot.out.trans hal)
            have hc1 := hot.out.cell' hc0 (fun f => f)
            clear hW1 hg1 hal
            try clear hcu
            refine hK.out _ _ (fun _ => hc1.trans hc0.symm) (fun hHeld1 => ?_)
            replace hHeld1 := hHeld1 rfl
            clear hK K
            try simp only [List.getElem_toArray, List.getElem_cons_zero, List.getElem_cons_succ, Act.put, List.setIfInBounds_toArray, List.set_cons_zero, List.set_cons_succ]
            refine late.ready (rs := [8, 12]) (by kernel_rfl) (by simp) ?_
            refine late.Each.cons rfl (fun K hK => ?_) (late.Each.cons rfl (fun K hK => ?_) late.Each.nil)
            · refine step_one (a := { tmps := _, defers := _ }) rfl _ _ rfl (.slice (some ⟨g1, 0, none⟩) 0 0) ([]) rfl HV.out _ 0 _ ([]) rfl (HT0.out _ _) (by simp only [List.length_nil]; omega) ?_
              rintro v2 W2 hown hgrow hkk
              have hgo := Only.of_grown hgrow
              replace HV : Hid (OwnO W2 v2 ([])) := Lib.hid (by simpa using hown)
              have hot2 : Hid (Only (fun _ => False) wr W2) := Lib.hid (hot.out.then hgo (fun q hq e => by have := HB.out q e; omega))
              replace HB : Hid (∀ q, v2.ownBlock = some q → wr.heap.size ≤ q) := Lib.hid (fun q hq => by
                rcases hkk q hq with e | e
                · exact HB.out q e
                · have := hot.out.size; omega)
              replace hot := hot2
              have hc2 := hot.out.cell' hc0 (fun f => f)
              clear hown hgrow hkk hgo hot2
              try clear hc1
              refine hK.out _ _ (fun _ => hc2.trans hc0.symm) (fun hHeld2 => ?_)
              replace hHeld2 := hHeld2 rfl
              clear hK K
              try simp only [List.getElem_toArray, List.getElem_cons_zero, List.getElem_cons_succ, Act.put, List.setIfInBounds_toArray, List.set_cons_zero, List.set_cons_succ]
              refine late.ready (rs := [12]) (by kernel_rfl) (by simp) ?_
              refine late.Each.cons rfl (fun K hK => ?_) late.Each.nil
              try simp only [List.getElem_toArray, List.getElem_cons_zero, List.getElem_cons_succ]
              go_simp
              obtain ⟨W3, hW3⟩ : ∃ x, x = W2.alloc (.cells #[.int .i64 g, .int .i64 at_] 45) := ⟨_, rfl⟩
              obtain ⟨g3, hg3⟩ : ∃ x, x = W2.heap.size := ⟨_, rfl⟩
              rw [← hW3, ← hg3]
              have hal : Only (fun _ => False) W2 W3 := by rw [hW3]; exact (Only.refl _ _).alloc _
              have HX : Hid (ReadsO W3 (some ⟨g3, 0, none⟩) 1 [(⟨at_, g⟩ : Tm)]) := Lib.hid (reads_oneO (by rw [hW3]; exact alloc_newM _ _ _ _ _ _ hg3 rfl) (by rw [hW3]; exact alloc_newM _ _ _ _ _ _ hg3 rfl))
              have HG : Hid (g3 < W3.heap.size) := Lib.hid (World.block_lt_of_cell? W3 _ (show W3.cell? ⟨g3, 0, none⟩ = _ by rw [hW3]; exact alloc_newM _ _ _ _ _ _ hg3 rfl))
              have HD : Hid (∀ q, (v2 : Value).ownBlock = some q → q ≠ g3) := Lib.hid (fun q e => by have := HV.out.lt e; omega)
              replace HV := Lib.hid (HV.out.only hal (fun _ _ f => f))
              replace hot : Hid (Only (fun _ => False) wr W3) := Lib.hid (hot.out.trans hal)
              have hc3 := hot.out.cell' hc0 (fun f => f)
              clear hW3 hg3 hal
              try clear hc2
              refine hK.out _ _ (fun _ => hc3.trans hc0.symm) (fun hHeld3 => ?_)
              replace hHeld3 := hHeld3 rfl
              clear hK K
              try simp only [List.getElem_toArray, List.getElem_cons_zero, List.getElem_cons_succ, Act.put, List.setIfInBounds_toArray, List.set_cons_zero, List.set_cons_succ]
              refine late.ready (rs := [13]) (by kernel_rfl) (by simp) ?_
              refine late.Each.cons rfl (fun K hK => ?_) late.Each.nil
              refine step_one (a := { tmps := _, defers := _ }) rfl _ _ rfl v2 ([]) rfl HV.out (some ⟨g3, 0, none⟩) 1 1 ([(⟨at_, g⟩ : Tm)]) rfl (HX.out) (by simp) ?_
              rintro v4 W4 hown hgrow hkk
              have hgo := Only.of_grown hgrow
              replace HV : Hid (OwnO W4 v4 ([(⟨at_, g⟩ : Tm)])) := Lib.hid (by simpa using hown)
              have hot2 : Hid (Only (fun _ => False) wr W4) := Lib.hid (hot.out.then hgo (fun q hq e => by have := HB.out q e; omega))
              replace HB : Hid (∀ q, v4.ownBlock = some q → wr.heap.size ≤ q) := Lib.hid (fun q hq => by
                rcases hkk q hq with e | e
                · exact HB.out q e
                · have := hot.out.size; omega)
              replace hot := hot2
              have hc4 := hot.out.cell' hc0 (fun f => f)
              clear hown hgrow hkk hgo hot2
              try clear hc3
              clear HX HG HD
              refine hK.out _ _ (fun _ => hc4.trans hc0.symm) (fun hHeld4 => ?_)
              replace hHeld4 := hHeld4 rfl
              clear hK K
              try simp only [List.getElem_toArray, List.getElem_cons_zero, List.getElem_cons_succ, Act.put, List.setIfInBounds_toArray, List.set_cons_zero, List.set_cons_succ]
              refine late.ready (rs := [20]) (by kernel_rfl) (by simp) ?_
              refine late.Each.cons rfl (fun K hK => ?_) late.Each.nil
              refine step_one (a := { tmps := _, defers := _ }) rfl _ _ rfl v4 ([(⟨at_, g⟩ : Tm)]) rfl HV.out _ 0 _ ([]) rfl (HT0.out _ _) (by simp) ?_
              rintro v5 W5 hown hgrow hkk
              have hgo := Only.of_grown hgrow
              replace HV : Hid (OwnO W5 v5 (insM ⟨at_, g⟩ l)) := Lib.hid (by rw [HI0.out]; simpa using hown)
              have hot2 : Hid (Only (fun _ => False) wr W5) := Lib.hid (hot.out.then hgo (fun q hq e => by have := HB.out q e; omega))
              replace HB : Hid (∀ q, v5.ownBlock = some q → wr.heap.size ≤ q) := Lib.hid (fun q hq => by
                rcases hkk q hq with e | e
                · exact HB.out q e
                · have := hot.out.size; omega)
              replace hot := hot2
              have hc5 := hot.out.cell' hc0 (fun f => f)
              clear hown hgrow hkk hgo hot2
              try clear hc4
              have hf5 : W5.frozen? ⟨p, 0, none⟩ = false := by rw [hot.out.frozen (World.block_lt_of_cell? wr _ hc0) (fun f => f)]; exact hf0
              obtain ⟨a2, c2, rfl, hr2, hl2, hm2, hn2, hb2⟩ := HV.out.form (by rw [insM_len]; omega)
              generalize hL : (insM ⟨at_, g⟩ l).length = L at *
              have HLL := Lib.hid hL
              have HL1 : Hid (L ≤ 901) := Lib.hid (by rw [← hL, insM_len]; omega)
              clear hL
              have HRR := Lib.hid hr2
              have HLM := Lib.hid hl2
              have HMM := Lib.hid hm2
              have HNN := Lib.hid hn2
              have HBB := Lib.hid hb2
              clear HV hr2 hl2 hm2 hn2 hb2
              refine hK.out _ _ (fun _ => hc5.trans hc0.symm) (fun hHeld5 => ?_)
              replace hHeld5 := hHeld5 rfl
              clear hK K
              try simp only [List.getElem_toArray, List.getElem_cons_zero, List.getElem_cons_succ, Act.put, List.setIfInBounds_toArray, List.set_cons_zero, List.set_cons_succ]
              refine late.take (i := 21) [22, 23] (v := ?_) rfl (by kernel_rfl) (by kernel_rfl) (by kernel_rfl) (by kernel_rfl) (fun _ _ _ h => h) (Or.inl ⟨by rfl, ?_⟩) (by assumption) ?_
              rotate_left 1
              · intro w' hSw
                try dsimp only at hSw
                go_simp
                try with_reducible rfl
              try simp only [List.getElem_toArray, List.getElem_cons_zero, List.getElem_cons_succ, Act.put, List.setIfInBounds_toArray, List.set_cons_zero, List.set_cons_succ]
              refine late.take (i := 22) [23] (v := ?_) rfl (by kernel_rfl) (by kernel_rfl) (by kernel_rfl) (by kernel_rfl) (fun _ _ _ h => h) (Or.inl ⟨by rfl, ?_⟩) (by assumption) ?_
              rotate_left 1
              · intro w' hSw
                try dsimp only at hSw
                go_simp
                try with_reducible rfl
              try simp only [List.getElem_toArray, List.getElem_cons_zero, List.getElem_cons_succ, Act.put, List.setIfInBounds_toArray, List.set_cons_zero, List.set_cons_succ]
              refine late.ready (rs := [23]) (by kernel_rfl) (by simp) ?_
              refine late.Each.cons rfl (fun K hK => ?_) late.Each.nil
              try simp only [List.getElem_toArray, List.getElem_cons_zero, List.getElem_cons_succ]
              go_simp
              obtain ⟨WZ, hWZ⟩ : ∃ x, x = W5.setCell ⟨p, 0, none⟩ (.slice a2 L c2) := ⟨_, rfl⟩
              rw [← hWZ]
              have HST : Hid (Only (fun x => x = p) W5 WZ) := Lib.hid (by rw [hWZ]; exact Only.set (fun x => x = p) W5 p 0 _ rfl)
              have HC9 : Hid (WZ.cell? ⟨p, 0, none⟩ = some (.slice a2 L c2)) := Lib.hid (by rw [hWZ]; exact cell_same hc5)
              have HF9 : Hid (WZ.frozen? ⟨p, 0, none⟩ = false) := Lib.hid (by rw [hWZ]; exact frozen_set.trans hf5)
              have hot9 : Hid (Only (fun q => q = p) wr WZ) := Lib.hid ((hot.out.mono (fun _ _ f => f.elim)).trans HST.out)
              have HBF : Hid (∀ y, a2 = some y → wr.heap.size ≤ y.block) := Lib.hid (fun y e => HB.out _ (HBB.out y e))
              have HEND := Lib.hid (HQ.out WZ a2 c2 ⟨by rw [HLL.out]; exact HC9.out, HF9.out, by rw [HLL.out]; exact HRR.out.only HST.out (fun y e h => by have := HBF.out y e; have := HPW.out; have h' : y.block = p := h; omega), fun y e h => by have := HBF.out y e; have := HPW.out; omega, by rw [HLL.out]; exact HLM.out, HMM.out, by rw [HLL.out]; have := HL1.out; omega, HNN.out⟩ HBF.out hot9.out)
              clear hWZ
              refine hK.out _ _ (fun h => by cases h) (fun _ => ?_)
              clear hK K
              try simp only [List.getElem_toArray, List.getElem_cons_zero, List.getElem_cons_succ, Act.put, List.setIfInBounds_toArray, List.set_cons_zero, List.set_cons_succ]
              refine late.done (by kernel_rfl) ?_ _
              refine NoPanic.normal ?_
              go_wp2_with fail
              all_goals
                go_ret
                exact HEND.out

            · try simp only [List.getElem_toArray, List.getElem_cons_zero, List.getElem_cons_succ]
              go_simp
              obtain ⟨W7, hW7⟩ : ∃ x, x = W1.alloc (.cells #[.int .i64 g, .int .i64 at_] 45) := ⟨_, rfl⟩
              obtain ⟨g7, hg7⟩ : ∃ x, x = W1.heap.size := ⟨_, rfl⟩
              rw [← hW7, ← hg7]
              have hal : Only (fun _ => False) W1 W7 := by rw [hW7]; exact (Only.refl _ _).alloc _
              have HX : Hid (ReadsO W7 (some ⟨g7, 0, none⟩) 1 [(⟨at_, g⟩ : Tm)]) := Lib.hid (reads_oneO (by rw [hW7]; exact alloc_newM _ _ _ _ _ _ hg7 rfl) (by rw [hW7]; exact alloc_newM _ _ _ _ _ _ hg7 rfl))
              have HG : Hid (g7 < W7.heap.size) := Lib.hid (World.block_lt_of_cell? W7 _ (show W7.cell? ⟨g7, 0, none⟩ = _ by rw [hW7]; exact alloc_newM _ _ _ _ _ _ hg7 rfl))
              have HD : Hid (∀ q, ((.slice (some ⟨g1, 0, none⟩) 0 0) : Value).ownBlock = some q → q ≠ g7) := Lib.hid (fun q e => by have := HV.out.lt e; omega)
              replace HV := Lib.hid (HV.out.only hal (fun _ _ f => f))
              replace hot : Hid (Only (fun _ => False) wr W7) := Lib.hid (hot.out.trans hal)
              have hc7 := hot.out.cell' hc0 (fun f => f)
              clear hW7 hg7 hal
              try clear hc1
              refine hK.out _ _ (fun _ => hc7.trans hc0.symm) (fun hHeld7 => ?_)
              replace hHeld7 := hHeld7 rfl
              clear hK K
              try simp only [List.getElem_toArray, List.getElem_cons_zero, List.getElem_cons_succ, Act.put, List.setIfInBounds_toArray, List.set_cons_zero, List.set_cons_succ]
              refine late.ready (rs := [8]) (by kernel_rfl) (by simp) ?_
              refine late.Each.cons rfl (fun K hK => ?_) late.Each.nil
              refine step_one (a := { tmps := _, defers := _ }) rfl _ _ rfl (.slice (some ⟨g1, 0, none⟩) 0 0) ([]) rfl HV.out _ 0 _ ([]) rfl (HT0.out _ _) (by simp only [List.length_nil]; omega) ?_
              rintro v8 W8 hown hgrow hkk
              have hgo := Only.of_grown hgrow
              replace HV : Hid (OwnO W8 v8 ([])) := Lib.hid (by simpa using hown)
              replace HX := Lib.hid (HX.out.only hgo (fun y e h => HD.out _ h (by rw [← Option.some.inj e])))
              replace HD : Hid (∀ q, v8.ownBlock = some q → q ≠ g7) := Lib.hid (fun q hq => by
                rcases hkk q hq with e | e
                · exact HD.out q e
                · have := HG.out; omega)
              replace HG := Lib.hid (Nat.lt_of_lt_of_le HG.out hgo.size)
              have hot2 : Hid (Only (fun _ => False) wr W8) := Lib.hid (hot.out.then hgo (fun q hq e => by have := HB.out q e; omega))
              replace HB : Hid (∀ q, v8.ownBlock = some q → wr.heap.size ≤ q) := Lib.hid (fun q hq => by
                rcases hkk q hq with e | e
                · exact HB.out q e
                · have := hot.out.size; omega)
              replace hot := hot2
              have hc8 := hot.out.cell' hc0 (fun f => f)
              clear hown hgrow hkk hgo hot2
              try clear hc7
              refine hK.out _ _ (fun _ => hc8.trans hc0.symm) (fun hHeld8 => ?_)
              replace hHeld8 := hHeld8 rfl
              clear hK K
              try simp only [List.getElem_toArray, List.getElem_cons_zero, List.getElem_cons_succ, Act.put, List.setIfInBounds_toArray, List.set_cons_zero, List.set_cons_succ]
              refine late.ready (rs := [13]) (by kernel_rfl) (by simp) ?_
              refine late.Each.cons rfl (fun K hK => ?_) late.Each.nil
              refine step_one (a := { tmps := _, defers := _ }) rfl _ _ rfl v8 ([]) rfl HV.out (some ⟨g7, 0, none⟩) 1 1 ([(⟨at_, g⟩ : Tm)]) rfl (HX.out) (by simp) ?_
              rintro v9 W9 hown hgrow hkk
              have hgo := Only.of_grown hgrow
              replace HV : Hid (OwnO W9 v9 ([(⟨at_, g⟩ : Tm)])) := Lib.hid (by simpa using hown)
              have hot2 : Hid (Only (fun _ => False) wr W9) := Lib.hid (hot.out.then hgo (fun q hq e => by have := HB.out q e; omega))
              replace HB : Hid (∀ q, v9.ownBlock = some q → wr.heap.size ≤ q) := Lib.hid (fun q hq => by
                rcases hkk q hq with e | e
                · exact HB.out q e
                · have := hot.out.size; omega)
              replace hot := hot2
              have hc9 := hot.out.cell' hc0 (fun f => f)
              clear hown hgrow hkk hgo hot2
              try clear hc8
              clear HX HG HD
              refine hK.out _ _ (fun _ => hc9.trans hc0.symm) (fun hHeld9 => ?_)
              replace hHeld9 := hHeld9 rfl
              clear hK K
              try simp only [List.getElem_toArray, List.getElem_cons_zero, List.getElem_cons_succ, Act.put, List.setIfInBounds_toArray, List.set_cons_zero, List.set_cons_succ]
              refine late.ready (rs := [20]) (by kernel_rfl) (by simp) ?_
              refine late.Each.cons rfl (fun K hK => ?_) late.Each.nil
              refine step_one (a := { tmps := _, defers := _ }) rfl _ _ rfl v9 ([(⟨at_, g⟩ : Tm)]) rfl HV.out _ 0 _ ([]) rfl (HT0.out _ _) (by simp) ?_
              rintro v10 W10 hown hgrow hkk
              have hgo := Only.of_grown hgrow
              replace HV : Hid (OwnO W10 v10 (insM ⟨at_, g⟩ l)) := Lib.hid (by rw [HI0.out]; simpa using hown)
              have hot2 : Hid (Only (fun _ => False) wr W10) := Lib.hid (hot.out.then hgo (fun q hq e => by have := HB.out q e; omega))
              replace HB : Hid (∀ q, v10.ownBlock = some q → wr.heap.size ≤ q) := Lib.hid (fun q hq => by
                rcases hkk q hq with e | e
                · exact HB.out q e
                · have := hot.out.size; omega)
              replace hot := hot2
              have hc10 := hot.out.cell' hc0 (fun f => f)
              clear hown hgrow hkk hgo hot2
              try clear hc9
              have hf10 : W10.frozen? ⟨p, 0, none⟩ = false := by rw [hot.out.frozen (World.block_lt_of_cell? wr _ hc0) (fun f => f)]; exact hf0
              obtain ⟨a2, c2, rfl, hr2, hl2, hm2, hn2, hb2⟩ := HV.out.form (by rw [insM_len]; omega)
              generalize hL : (insM ⟨at_, g⟩ l).length = L at *
              have HLL := Lib.hid hL
              have HL1 : Hid (L ≤ 901) := Lib.hid (by rw [← hL, insM_len]; omega)
              clear hL
              have HRR := Lib.hid hr2
              have HLM := Lib.hid hl2
              have HMM := Lib.hid hm2
              have HNN := Lib.hid hn2
              have HBB := Lib.hid hb2
              clear HV hr2 hl2 hm2 hn2 hb2
              refine hK.out _ _ (fun _ => hc10.trans hc0.symm) (fun hHeld10 => ?_)
              replace hHeld10 := hHeld10 rfl
              clear hK K
              try simp only [List.getElem_toArray, List.getElem_cons_zero, List.getElem_cons_succ, Act.put, List.setIfInBounds_toArray, List.set_cons_zero, List.set_cons_succ]
              refine late.take (i := 21) [22, 23] (v := ?_) rfl (by kernel_rfl) (by kernel_rfl) (by kernel_rfl) (by kernel_rfl) (fun _ _ _ h => h) (Or.inl ⟨by rfl, ?_⟩) (by assumption) ?_
              rotate_left 1
              · intro w' hSw
                try dsimp only at hSw
                go_simp
                try with_reducible rfl
              try simp only [List.getElem_toArray, List.getElem_cons_zero, List.getElem_cons_succ, Act.put, List.setIfInBounds_toArray, List.set_cons_zero, List.set_cons_succ]
              refine late.take (i := 22) [23] (v := ?_) rfl (by kernel_rfl) (by kernel_rfl) (by kernel_rfl) (by kernel_rfl) (fun _ _ _ h => h) (Or.inl ⟨by rfl, ?_⟩) (by assumption) ?_
              rotate_left 1
              · intro w' hSw
                try dsimp only at hSw
                go_simp
                try with_reducible rfl
              try simp only [List.getElem_toArray, List.getElem_cons_zero, List.getElem_cons_succ, Act.put, List.setIfInBounds_toArray, List.set_cons_zero, List.set_cons_succ]
              refine late.ready (rs := [23]) (by kernel_rfl) (by simp) ?_
              refine late.Each.cons rfl (fun K hK => ?_) late.Each.nil
              try simp only [List.getElem_toArray, List.getElem_cons_zero, List.getElem_cons_succ]
              go_simp
              obtain ⟨WZ, hWZ⟩ : ∃ x, x = W10.setCell ⟨p, 0, none⟩ (.slice a2 L c2) := ⟨_, rfl⟩
              rw [← hWZ]
              have HST : Hid (Only (fun x => x = p) W10 WZ) := Lib.hid (by rw [hWZ]; exact Only.set (fun x => x = p) W10 p 0 _ rfl)
              have HC9 : Hid (WZ.cell? ⟨p, 0, none⟩ = some (.slice a2 L c2)) := Lib.hid (by rw [hWZ]; exact cell_same hc10)
              have HF9 : Hid (WZ.frozen? ⟨p, 0, none⟩ = false) := Lib.hid (by rw [hWZ]; exact frozen_set.trans hf10)
              have hot9 : Hid (Only (fun q => q = p) wr WZ) := Lib.hid ((hot.out.mono (fun _ _ f => f.elim)).trans HST.out)
              have HBF : Hid (∀ y, a2 = some y → wr.heap.size ≤ y.block) := Lib.hid (fun y e => HB.out _ (HBB.out y e))
              have HEND := Lib.hid (HQ.out WZ a2 c2 ⟨by rw [HLL.out]; exact HC9.out, HF9.out, by rw [HLL.out]; exact HRR.out.only HST.out (fun y e h => by have := HBF.out y e; have := HPW.out; have h' : y.block = p := h; omega), fun y e h => by have := HBF.out y e; have := HPW.out; omega, by rw [HLL.out]; exact HLM.out, HMM.out, by rw [HLL.out]; have := HL1.out; omega, HNN.out⟩ HBF.out hot9.out)
              clear hWZ
              refine hK.out _ _ (fun h => by cases h) (fun _ => ?_)
              clear hK K
              try simp only [List.getElem_toArray, List.getElem_cons_zero, List.getElem_cons_succ, Act.put, List.setIfInBounds_toArray, List.set_cons_zero, List.set_cons_succ]
              refine late.done (by kernel_rfl) ?_ _
              refine NoPanic.normal ?_
              go_wp2_with fail
              all_goals
                go_ret
                exact HEND.out

          · try simp only [List.getElem_toArray, List.getElem_cons_zero, List.getElem_cons_succ]
            go_simp
            obtain ⟨W12, hW12⟩ : ∃ x, x = u0.alloc (.cells #[.int .i64 g, .int .i64 at_] 45) := ⟨_, rfl⟩
            obtain ⟨g12, hg12⟩ : ∃ x, x = u0.heap.size := ⟨_, rfl⟩
            rw [← hW12, ← hg12]
            have hal : Only (fun _ => False) u0 W12 := by rw [hW12]; exact (Only.refl _ _).alloc _
            have HX : Hid (ReadsO W12 (some ⟨g12, 0, none⟩) 1 [(⟨at_, g⟩ : Tm)]) := Lib.hid (reads_oneO (by rw [hW12]; exact alloc_newM _ _ _ _ _ _ hg12 rfl) (by rw [hW12]; exact alloc_newM _ _ _ _ _ _ hg12 rfl))
            have HG : Hid (g12 < W12.heap.size) := Lib.hid (World.block_lt_of_cell? W12 _ (show W12.cell? ⟨g12, 0, none⟩ = _ by rw [hW12]; exact alloc_newM _ _ _ _ _ _ hg12 rfl))
            replace hot : Hid (Only (fun _ => False) wr W12) := Lib.hid (hot.out.trans hal)
            have hc12 := hot.out.cell' hc0 (fun f => f)
            clear hW12 hg12 hal
            try clear hcu
            refine hK.out _ _ (fun _ => hc12.trans hc0.symm) (fun hHeld12 => ?_)
            replace hHeld12 := hHeld12 rfl
            clear hK K
            try simp only [List.getElem_toArray, List.getElem_cons_zero, List.getElem_cons_succ, Act.put, List.setIfInBounds_toArray, List.set_cons_zero, List.set_cons_succ]
            refine late.ready (rs := [1]) (by kernel_rfl) (by simp) ?_
            refine late.Each.cons rfl (fun K hK => ?_) late.Each.nil
            try simp only [List.getElem_toArray, List.getElem_cons_zero, List.getElem_cons_succ]
            go_simp
            obtain ⟨W13, hW13⟩ : ∃ x, x = W12.alloc (.cells #[] 45) := ⟨_, rfl⟩
            obtain ⟨g13, hg13⟩ : ∃ x, x = W12.heap.size := ⟨_, rfl⟩
            rw [← hW13, ← hg13]
            have hal : Only (fun _ => False) W12 W13 := by rw [hW13]; exact (Only.refl _ _).alloc _
            have HV : Hid (OwnO W13 (.slice (some ⟨g13, 0, none⟩) 0 0) []) := Lib.hid (by rw [hW13, hg13]; exact World.ownsRow_lit W12 #[] 0 (Nat.zero_le _) (by decide) rfl)
            have HB : Hid (∀ q, (Value.slice (some ⟨g13, 0, none⟩) 0 0).ownBlock = some q → wr.heap.size ≤ q) := Lib.hid (fun q e => by
              have e' : g13 = q := by simpa [Value.ownBlock] using e
              have := hot.out.size; omega)
            have HD : Hid (∀ q, (Value.slice (some ⟨g13, 0, none⟩) 0 0).ownBlock = some q → q ≠ g12) := Lib.hid (fun q e => by
              have e' : g13 = q := by simpa [Value.ownBlock] using e
              have := HG.out; omega)
            replace HX := Lib.hid (HX.out.only hal (fun _ _ f => f))
            replace HG := Lib.hid (Nat.lt_of_lt_of_le HG.out hal.size)
            replace hot : Hid (Only (fun _ => False) wr W13) := Lib.hid (hot.out.trans hal)
            have hc13 := hot.out.cell' hc0 (fun f => f)
            clear hW13 hg13 hal
            try clear hc12
            refine hK.out _ _ (fun _ => hc13.trans hc0.symm) (fun hHeld13 => ?_)
            replace hHeld13 := hHeld13 rfl
            clear hK K
            try simp only [List.getElem_toArray, List.getElem_cons_zero, List.getElem_cons_succ, Act.put, List.setIfInBounds_toArray, List.set_cons_zero, List.set_cons_succ]
            refine late.ready (rs := [8]) (by kernel_rfl) (by simp) ?_
            refine late.Each.cons rfl (fun K hK => ?_) late.Each.nil
            refine step_one (a := { tmps := _, defers := _ }) rfl _ _ rfl (.slice (some ⟨g13, 0, none⟩) 0 0) ([]) rfl HV.out _ 0 _ ([]) rfl (HT0.out _ _) (by simp only [List.length_nil]; omega) ?_
            rintro v14 W14 hown hgrow hkk
            have hgo := Only.of_grown hgrow
            replace HV : Hid (OwnO W14 v14 ([])) := Lib.hid (by simpa using hown)
            replace HX := Lib.hid (HX.out.only hgo (fun y e h => HD.out _ h (by rw [← Option.some.inj e])))
            replace HD : Hid (∀ q, v14.ownBlock = some q → q ≠ g12) := Lib.hid (fun q hq => by
              rcases hkk q hq with e | e
              · exact HD.out q e
              · have := HG.out; omega)
            replace HG := Lib.hid (Nat.lt_of_lt_of_le HG.out hgo.size)
            have hot2 : Hid (Only (fun _ => False) wr W14) := Lib.hid (hot.out.then hgo (fun q hq e => by have := HB.out q e; omega))
            replace HB : Hid (∀ q, v14.ownBlock = some q → wr.heap.size ≤ q) := Lib.hid (fun q hq => by
              rcases hkk q hq with e | e
              · exact HB.out q e
              · have := hot.out.size; omega)
            replace hot := hot2
            have hc14 := hot.out.cell' hc0 (fun f => f)
            clear hown hgrow hkk hgo hot2
            try clear hc13
            refine hK.out _ _ (fun _ => hc14.trans hc0.symm) (fun hHeld14 => ?_)
            replace hHeld14 := hHeld14 rfl
            clear hK K
            try simp only [List.getElem_toArray, List.getElem_cons_zero, List.getElem_cons_succ, Act.put, List.setIfInBounds_toArray, List.set_cons_zero, List.set_cons_succ]
            refine late.ready (rs := [13]) (by kernel_rfl) (by simp) ?_
            refine late.Each.cons rfl (fun K hK => ?_) late.Each.nil
            refine step_one (a := { tmps := _, defers := _ }) rfl _ _ rfl v14 ([]) rfl HV.out (some ⟨g12, 0, none⟩) 1 1 ([(⟨at_, g⟩ : Tm)]) rfl (HX.out) (by simp) ?_
            rintro v15 W15 hown hgrow hkk
            have hgo := Only.of_grown hgrow
            replace HV : Hid (OwnO W15 v15 ([(⟨at_, g⟩ : Tm)])) := Lib.hid (by simpa using hown)
            have hot2 : Hid (Only (fun _ => False) wr W15) := Lib.hid (hot.out.then hgo (fun q hq e => by have := HB.out q e; omega))
            replace HB : Hid (∀ q, v15.ownBlock = some q → wr.heap.size ≤ q) := Lib.hid (fun q hq => by
              rcases hkk q hq with e | e
              · exact HB.out q e
              · have := hot.out.size; omega)
            replace hot := hot2
            have hc15 := hot.out.cell' hc0 (fun f => f)
            clear hown hgrow hkk hgo hot2
            try clear hc14
            clear HX HG HD
            refine hK.out _ _ (fun _ => hc15.trans hc0.symm) (fun hHeld15 => ?_)
            replace hHeld15 := hHeld15 rfl
            clear hK K
            try simp only [List.getElem_toArray, List.getElem_cons_zero, List.getElem_cons_succ, Act.put, List.setIfInBounds_toArray, List.set_cons_zero, List.set_cons_succ]
            refine late.ready (rs := [20]) (by kernel_rfl) (by simp) ?_
            refine late.Each.cons rfl (fun K hK => ?_) late.Each.nil
            refine step_one (a := { tmps := _, defers := _ }) rfl _ _ rfl v15 ([(⟨at_, g⟩ : Tm)]) rfl HV.out _ 0 _ ([]) rfl (HT0.out _ _) (by simp) ?_
            rintro v16 W16 hown hgrow hkk
            have hgo := Only.of_grown hgrow
            replace HV : Hid (OwnO W16 v16 (insM ⟨at_, g⟩ l)) := Lib.hid (by rw [HI0.out]; simpa using hown)
            have hot2 : Hid (Only (fun _ => False) wr W16) := Lib.hid (hot.out.then hgo (fun q hq e => by have := HB.out q e; omega))
            replace HB : Hid (∀ q, v16.ownBlock = some q → wr.heap.size ≤ q) := Lib.hid (fun q hq => by
              rcases hkk q hq with e | e
              · exact HB.out q e
              · have := hot.out.size; omega)
            replace hot := hot2
            have hc16 := hot.out.cell' hc0 (fun f => f)
            clear hown hgrow hkk hgo hot2
            try clear hc15
            have hf16 : W16.frozen? ⟨p, 0, none⟩ = false := by rw [hot.out.frozen (World.block_lt_of_cell? wr _ hc0) (fun f => f)]; exact hf0
            obtain ⟨a2, c2, rfl, hr2, hl2, hm2, hn2, hb2⟩ := HV.out.form (by rw [insM_len]; omega)
            generalize hL : (insM ⟨at_, g⟩ l).length = L at *
            have HLL := Lib.hid hL
            have HL1 : Hid (L ≤ 901) := Lib.hid (by rw [← hL, insM_len]; omega)
            clear hL
            have HRR := Lib.hid hr2
            have HLM := Lib.hid hl2
            have HMM := Lib.hid hm2
            have HNN := Lib.hid hn2
            have HBB := Lib.hid hb2
            clear HV hr2 hl2 hm2 hn2 hb2
            refine hK.out _ _ (fun _ => hc16.trans hc0.symm) (fun hHeld16 => ?_)
            replace hHeld16 := hHeld16 rfl
            clear hK K
            try simp only [List.getElem_toArray, List.getElem_cons_zero, List.getElem_cons_succ, Act.put, List.setIfInBounds_toArray, List.set_cons_zero, List.set_cons_succ]
            refine late.take (i := 21) [22, 23] (v := ?_) rfl (by kernel_rfl) (by kernel_rfl) (by kernel_rfl) (by kernel_rfl) (fun _ _ _ h => h) (Or.inl ⟨by rfl, ?_⟩) (by assumption) ?_
            rotate_left 1
            · intro w' hSw
              try dsimp only at hSw
              go_simp
              try with_reducible rfl
            try simp only [List.getElem_toArray, List.getElem_cons_zero, List.getElem_cons_succ, Act.put, List.setIfInBounds_toArray, List.set_cons_zero, List.set_cons_succ]
            refine late.take (i := 22) [23] (v := ?_) rfl (by kernel_rfl) (by kernel_rfl) (by kernel_rfl) (by kernel_rfl) (fun _ _ _ h => h) (Or.inl ⟨by rfl, ?_⟩) (by assumption) ?_
            rotate_left 1
            · intro w' hSw
              try dsimp only at hSw
              go_simp
              try with_reducible rfl
            try simp only [List.getElem_toArray, List.getElem_cons_zero, List.getElem_cons_succ, Act.put, List.setIfInBounds_toArray, List.set_cons_zero, List.set_cons_succ]
            refine late.ready (rs := [23]) (by kernel_rfl) (by simp) ?_
            refine late.Each.cons rfl (fun K hK => ?_) late.Each.nil
            try simp only [List.getElem_toArray, List.getElem_cons_zero, List.getElem_cons_succ]
            go_simp
            obtain ⟨WZ, hWZ⟩ : ∃ x, x = W16.setCell ⟨p, 0, none⟩ (.slice a2 L c2) := ⟨_, rfl⟩
            rw [← hWZ]
            have HST : Hid (Only (fun x => x = p) W16 WZ) := Lib.hid (by rw [hWZ]; exact Only.set (fun x => x = p) W16 p 0 _ rfl)
            have HC9 : Hid (WZ.cell? ⟨p, 0, none⟩ = some (.slice a2 L c2)) := Lib.hid (by rw [hWZ]; exact cell_same hc16)
            have HF9 : Hid (WZ.frozen? ⟨p, 0, none⟩ = false) := Lib.hid (by rw [hWZ]; exact frozen_set.trans hf16)
            have hot9 : Hid (Only (fun q => q = p) wr WZ) := Lib.hid ((hot.out.mono (fun _ _ f => f.elim)).trans HST.out)
            have HBF : Hid (∀ y, a2 = some y → wr.heap.size ≤ y.block) := Lib.hid (fun y e => HB.out _ (HBB.out y e))
            have HEND := Lib.hid (HQ.out WZ a2 c2 ⟨by rw [HLL.out]; exact HC9.out, HF9.out, by rw [HLL.out]; exact HRR.out.only HST.out (fun y e h => by have := HBF.out y e; have := HPW.out; have h' : y.block = p := h; omega), fun y e h => by have := HBF.out y e; have := HPW.out; omega, by rw [HLL.out]; exact HLM.out, HMM.out, by rw [HLL.out]; have := HL1.out; omega, HNN.out⟩ HBF.out hot9.out)
            clear hWZ
            refine hK.out _ _ (fun h => by cases h) (fun _ => ?_)
            clear hK K
            try simp only [List.getElem_toArray, List.getElem_cons_zero, List.getElem_cons_succ, Act.put, List.setIfInBounds_toArray, List.set_cons_zero, List.set_cons_succ]
            refine late.done (by kernel_rfl) ?_ _
            refine NoPanic.normal ?_
            go_wp2_with fail
            all_goals
              go_ret
              exact HEND.out
        · clear hrd hu8
          go_upto_region 9 with fail
          refine wp_region_noPanic ?_
          refine late.region (fun w' => w'.cell? ⟨p, 0, none⟩ = wr.cell? ⟨p, 0, none⟩) (fun j => [23].contains j) (by kernel_rfl) (((Only.refl (fun _ => False) wr).drew.cell' hc0 (fun f => f)).trans hc0.symm) (fun hHeld => ?_)
          obtain ⟨u0, hu0⟩ : ∃ x, x = wr.drew := ⟨_, rfl⟩
          rw [← hu0] at hHeld ⊢
          have hot : Hid (Only (fun _ => False) wr u0) := Lib.hid (by rw [hu0]; exact (Only.refl _ _).drew)
          have hcu := hot.out.cell' hc0 (fun f => f)
          clear hu0
          refine late.take (i := 0) [21, 22, 23] (v := ?_) rfl (by kernel_rfl) (by kernel_rfl) (by kernel_rfl) (by kernel_rfl) (fun _ _ _ h => h) (Or.inl ⟨by rfl, ?_⟩) (by assumption) ?_
          rotate_left 1
          · intro w' hSw
            try dsimp only at hSw
            go_simp
            try with_reducible rfl
          try simp only [List.getElem_toArray, List.getElem_cons_zero, Act.put, List.setIfInBounds_toArray, List.set_cons_zero, List.set_cons_succ]
          refine late.take (i := 2) [3, 4, 5, 7, 8, 13, 20, 21, 22, 23] (v := ?_) rfl (by kernel_rfl) (by kernel_rfl) (by kernel_rfl) (by kernel_rfl) (fun _ _ _ h => h) (Or.inl ⟨by rfl, ?_⟩) (by assumption) ?_
          rotate_left 1
          · intro w' hSw
            try dsimp only at hSw
            go_simp
            try with_reducible rfl
          try simp only [List.getElem_toArray, List.getElem_cons_zero, List.getElem_cons_succ, Act.put, List.setIfInBounds_toArray, List.set_cons_zero, List.set_cons_succ]
          refine late.take (i := 3) [4, 5, 7, 8, 13, 20, 21, 22, 23] (v := ?_) rfl (by kernel_rfl) (by kernel_rfl) (by kernel_rfl) (by kernel_rfl) (fun _ _ _ h => h) (Or.inl ⟨by rfl, ?_⟩) (by assumption) ?_
          rotate_left 1
          · intro w' hSw
            try dsimp only at hSw
            go_simp
            try with_reducible rfl
          try simp only [List.getElem_toArray, List.getElem_cons_zero, List.getElem_cons_succ, Act.put, List.setIfInBounds_toArray, List.set_cons_zero, List.set_cons_succ]
          refine late.take (i := 4) [5, 7, 8, 13, 20, 21, 22, 23] (v := ?_) rfl (by kernel_rfl) (by kernel_rfl) (by kernel_rfl) (by kernel_rfl) (fun _ _ _ h => h) (Or.inl ⟨by rfl, ?_⟩) (by assumption) ?_
          rotate_left 1
          · intro w' hSw
            try dsimp only at hSw
            go_simp
            try with_reducible rfl
          try simp only [List.getElem_toArray, List.getElem_cons_zero, List.getElem_cons_succ, Act.put, List.setIfInBounds_toArray, List.set_cons_zero, List.set_cons_succ]
          refine late.take (i := 5) [7, 8, 13, 20, 21, 22, 23] (v := ?_) rfl (by kernel_rfl) (by kernel_rfl) (by kernel_rfl) (by kernel_rfl) (fun _ _ _ h => h) (Or.inl ⟨by rfl, ?_⟩) (by assumption) ?_
          rotate_left 1
          · intro w' hSw
            try dsimp only at hSw
            go_simp
            try with_reducible rfl
          try simp only [List.getElem_toArray, List.getElem_cons_zero, List.getElem_cons_succ, Act.put, List.setIfInBounds_toArray, List.set_cons_zero, List.set_cons_succ]
          refine late.take (i := 6) [7, 8, 13, 20, 21, 22, 23] (v := ?_) rfl (by kernel_rfl) (by kernel_rfl) (by kernel_rfl) (by kernel_rfl) (fun _ _ _ h => h) (Or.inl ⟨by rfl, ?_⟩) (by assumption) ?_
          rotate_left 1
          · intro w' hSw
            try dsimp only at hSw
            go_simp
            try with_reducible rfl
          try simp only [List.getElem_toArray, List.getElem_cons_zero, List.getElem_cons_succ, Act.put, List.setIfInBounds_toArray, List.set_cons_zero, List.set_cons_succ]
          refine late.take (i := 7) [8, 13, 20, 21, 22, 23] (v := ?_) rfl (by kernel_rfl) (by kernel_rfl) (by kernel_rfl) (by kernel_rfl) (fun _ _ _ h => h) (Or.inl ⟨by rfl, ?_⟩) (by assumption) ?_
          rotate_left 1
          · intro w' hSw
            try dsimp only at hSw
            go_simp
            try with_reducible rfl
          try simp only [List.getElem_toArray, List.getElem_cons_zero, List.getElem_cons_succ, Act.put, List.setIfInBounds_toArray, List.set_cons_zero, List.set_cons_succ]
          refine late.take (i := 9) [11, 12, 13, 20, 21, 22, 23] (v := ?_) rfl (by kernel_rfl) (by kernel_rfl) (by kernel_rfl) (by kernel_rfl) (fun _ _ _ h => h) (Or.inl ⟨by rfl, ?_⟩) (by assumption) ?_
          rotate_left 1
          · intro w' hSw
            try dsimp only at hSw
            go_simp
            try with_reducible rfl
          try simp only [List.getElem_toArray, List.getElem_cons_zero, List.getElem_cons_succ, Act.put, List.setIfInBounds_toArray, List.set_cons_zero, List.set_cons_succ]
          refine late.take (i := 10) [11, 12, 13, 20, 21, 22, 23] (v := ?_) rfl (by kernel_rfl) (by kernel_rfl) (by kernel_rfl) (by kernel_rfl) (fun _ _ _ h => h) (Or.inl ⟨by rfl, ?_⟩) (by assumption) ?_
          rotate_left 1
          · intro w' hSw
            try dsimp only at hSw
            go_simp
            try with_reducible rfl
          try simp only [List.getElem_toArray, List.getElem_cons_zero, List.getElem_cons_succ, Act.put, List.setIfInBounds_toArray, List.set_cons_zero, List.set_cons_succ]
          refine late.take (i := 11) [12, 13, 20, 21, 22, 23] (v := ?_) rfl (by kernel_rfl) (by kernel_rfl) (by kernel_rfl) (by kernel_rfl) (fun _ _ _ h => h) (Or.inl ⟨by rfl, ?_⟩) (by assumption) ?_
          rotate_left 1
          · intro w' hSw
            try dsimp only at hSw
            go_simp
            try with_reducible rfl
          try simp only [List.getElem_toArray, List.getElem_cons_zero, List.getElem_cons_succ, Act.put, List.setIfInBounds_toArray, List.set_cons_zero, List.set_cons_succ]
          refine late.take (i := 14) [15, 16, 17, 19, 20, 21, 22, 23] (v := ?_) rfl (by kernel_rfl) (by kernel_rfl) (by kernel_rfl) (by kernel_rfl) (fun _ _ _ h => h) (Or.inl ⟨by rfl, ?_⟩) (by assumption) ?_
          rotate_left 1
          · intro w' hSw
            try dsimp only at hSw
            go_simp
            try with_reducible rfl
          try simp only [List.getElem_toArray, List.getElem_cons_zero, List.getElem_cons_succ, Act.put, List.setIfInBounds_toArray, List.set_cons_zero, List.set_cons_succ]
          refine late.take (i := 15) [16, 17, 19, 20, 21, 22, 23] (v := ?_) rfl (by kernel_rfl) (by kernel_rfl) (by kernel_rfl) (by kernel_rfl) (fun _ _ _ h => h) (Or.inl ⟨by rfl, ?_⟩) (by assumption) ?_
          rotate_left 1
          · intro w' hSw
            try dsimp only at hSw
            go_simp
            try with_reducible rfl
          try simp only [List.getElem_toArray, List.getElem_cons_zero, List.getElem_cons_succ, Act.put, List.setIfInBounds_toArray, List.set_cons_zero, List.set_cons_succ]
          refine late.take (i := 16) [17, 19, 20, 21, 22, 23] (v := ?_) rfl (by kernel_rfl) (by kernel_rfl) (by kernel_rfl) (by kernel_rfl) (fun _ _ _ h => h) (Or.inl ⟨by rfl, ?_⟩) (by assumption) ?_
          rotate_left 1
          · intro w' hSw
            try dsimp only at hSw
            go_simp
            try with_reducible rfl
          try simp only [List.getElem_toArray, List.getElem_cons_zero, List.getElem_cons_succ, Act.put, List.setIfInBounds_toArray, List.set_cons_zero, List.set_cons_succ]
          refine late.take (i := 17) [19, 20, 21, 22, 23] (v := ?_) rfl (by kernel_rfl) (by kernel_rfl) (by kernel_rfl) (by kernel_rfl) (fun _ _ _ h => h) (Or.inl ⟨by rfl, ?_⟩) (by assumption) ?_
          rotate_left 1
          · intro w' hSw
            try dsimp only at hSw
            go_simp
            try with_reducible rfl
          try simp only [List.getElem_toArray, List.getElem_cons_zero, List.getElem_cons_succ, Act.put, List.setIfInBounds_toArray, List.set_cons_zero, List.set_cons_succ]
          refine late.take (i := 18) [19, 20, 21, 22, 23] (v := ?_) rfl (by kernel_rfl) (by kernel_rfl) (by kernel_rfl) (by kernel_rfl) (fun _ _ _ h => h) (Or.inl ⟨by rfl, ?_⟩) (by assumption) ?_
          rotate_left 1
          · intro w' hSw
            try dsimp only at hSw
            go_simp
            try with_reducible rfl
          try simp only [List.getElem_toArray, List.getElem_cons_zero, List.getElem_cons_succ, Act.put, List.setIfInBounds_toArray, List.set_cons_zero, List.set_cons_succ]
          refine late.take (i := 19) [20, 21, 22, 23] (v := ?_) rfl (by kernel_rfl) (by kernel_rfl) (by kernel_rfl) (by kernel_rfl) (fun _ _ _ h => h) (Or.inl ⟨by rfl, ?_⟩) (by assumption) ?_
          rotate_left 1
          · intro w' hSw
            try dsimp only at hSw
            go_simp
            try with_reducible rfl
          try simp only [List.getElem_toArray, List.getElem_cons_zero, List.getElem_cons_succ, Act.put, List.setIfInBounds_toArray, List.set_cons_zero, List.set_cons_succ]
          refine late.ready (rs := [1, 12]) (by kernel_rfl) (by simp) ?_
          refine late.Each.cons rfl (fun K hK => ?_) (late.Each.cons rfl (fun K hK => ?_) late.Each.nil)
          · try simp only [List.getElem_toArray, List.getElem_cons_zero, List.getElem_cons_succ]
            go_simp
            obtain ⟨W1, hW1⟩ : ∃ x, x = u0.alloc (.cells #[] 45) := ⟨_, rfl⟩
            obtain ⟨g1, hg1⟩ : ∃ x, x = u0.heap.size := ⟨_, rfl⟩
            rw [← hW1, ← hg1]
            have hal : Only (fun _ => False) u0 W1 := by rw [hW1]; exact (Only.refl _ _).alloc _
            have HV : Hid (OwnO W1 (.slice (some ⟨g1, 0, none⟩) 0 0) []) := Lib.hid (by rw [hW1, hg1]; exact World.ownsRow_lit u0 #[] 0 (Nat.zero_le _) (by decide) rfl)
            have HB : Hid (∀ q, (Value.slice (some ⟨g1, 0, none⟩) 0 0).ownBlock = some q → wr.heap.size ≤ q) := Lib.hid (fun q e => by
              have e' : g1 = q := by simpa [Value.ownBlock] using e
              have := hot.out.size; omega)
            replace hot : Hid (Only (fun _ => False) wr W1) := Lib.hid (hot.out.trans hal)
            have hc1 := hot.out.cell' hc0 (fun f => f)
            clear hW1 hg1 hal
            try clear hcu
            refine hK.out _ _ (fun _ => hc1.trans hc0.symm) (fun hHeld1 => ?_)
            replace hHeld1 := hHeld1 rfl
            clear hK K
            try simp only [List.getElem_toArray, List.getElem_cons_zero, List.getElem_cons_succ, Act.put, List.setIfInBounds_toArray, List.set_cons_zero, List.set_cons_succ]
            refine late.ready (rs := [8, 12]) (by kernel_rfl) (by simp) ?_
            refine late.Each.cons rfl (fun K hK => ?_) (late.Each.cons rfl (fun K hK => ?_) late.Each.nil)
            · refine step_one (a := { tmps := _, defers := _ }) rfl _ _ rfl (.slice (some ⟨g1, 0, none⟩) 0 0) ([]) rfl HV.out _ 0 _ ([]) rfl (HT0.out _ _) (by simp only [List.length_nil]; omega) ?_
              rintro v2 W2 hown hgrow hkk
              have hgo := Only.of_grown hgrow
              replace HV : Hid (OwnO W2 v2 ([])) := Lib.hid (by simpa using hown)
              have hot2 : Hid (Only (fun _ => False) wr W2) := Lib.hid (hot.out.then hgo (fun q hq e => by have := HB.out q e; omega))
              replace HB : Hid (∀ q, v2.ownBlock = some q → wr.heap.size ≤ q) := Lib.hid (fun q hq => by
                rcases hkk q hq with e | e
                · exact HB.out q e
                · have := hot.out.size; omega)
              replace hot := hot2
              have hc2 := hot.out.cell' hc0 (fun f => f)
              clear hown hgrow hkk hgo hot2
              try clear hc1
              refine hK.out _ _ (fun _ => hc2.trans hc0.symm) (fun hHeld2 => ?_)
              replace hHeld2 := hHeld2 rfl
              clear hK K
              try simp only [List.getElem_toArray, List.getElem_cons_zero, List.getElem_cons_succ, Act.put, List.setIfInBounds_toArray, List.set_cons_zero, List.set_cons_succ]
              refine late.ready (rs := [12]) (by kernel_rfl) (by simp) ?_
              refine late.Each.cons rfl (fun K hK => ?_) late.Each.nil
              try simp only [List.getElem_toArray, List.getElem_cons_zero, List.getElem_cons_succ]
              go_simp
              obtain ⟨W3, hW3⟩ : ∃ x, x = W2.alloc (.cells #[.int .i64 g, .int .i64 at_] 45) := ⟨_, rfl⟩
              obtain ⟨g3, hg3⟩ : ∃ x, x = W2.heap.size := ⟨_, rfl⟩
              rw [← hW3, ← hg3]
              have hal : Only (fun _ => False) W2 W3 := by rw [hW3]; exact (Only.refl _ _).alloc _
              have HX : Hid (ReadsO W3 (some ⟨g3, 0, none⟩) 1 [(⟨at_, g⟩ : Tm)]) := Lib.hid (reads_oneO (by rw [hW3]; exact alloc_newM _ _ _ _ _ _ hg3 rfl) (by rw [hW3]; exact alloc_newM _ _ _ _ _ _ hg3 rfl))
              have HG : Hid (g3 < W3.heap.size) := Lib.hid (World.block_lt_of_cell? W3 _ (show W3.cell? ⟨g3, 0, none⟩ = _ by rw [hW3]; exact alloc_newM _ _ _ _ _ _ hg3 rfl))
              have HD : Hid (∀ q, (v2 : Value).ownBlock = some q → q ≠ g3) := Lib.hid (fun q e => by have := HV.out.lt e; omega)
              replace HV := Lib.hid (HV.out.only hal (fun _ _ f => f))
              replace hot : Hid (Only (fun _ => False) wr W3) := Lib.hid (hot.out.trans hal)
              have hc3 := hot.out.cell' hc0 (fun f => f)
              clear hW3 hg3 hal
              try clear hc2
              refine hK.out _ _ (fun _ => hc3.trans hc0.symm) (fun hHeld3 => ?_)
              replace hHeld3 := hHeld3 rfl
              clear hK K
              try simp only [List.getElem_toArray, List.getElem_cons_zero, List.getElem_cons_succ, Act.put, List.setIfInBounds_toArray, List.set_cons_zero, List.set_cons_succ]
              refine late.ready (rs := [13]) (by kernel_rfl) (by simp) ?_
              refine late.Each.cons rfl (fun K hK => ?_) late.Each.nil
              refine step_one (a := { tmps := _, defers := _ }) rfl _ _ rfl v2 ([]) rfl HV.out (some ⟨g3, 0, none⟩) 1 1 ([(⟨at_, g⟩ : Tm)]) rfl (HX.out) (by simp) ?_
              rintro v4 W4 hown hgrow hkk
              have hgo := Only.of_grown hgrow
              replace HV : Hid (OwnO W4 v4 ([(⟨at_, g⟩ : Tm)])) := Lib.hid (by simpa using hown)
              have hot2 : Hid (Only (fun _ => False) wr W4) := Lib.hid (hot.out.then hgo (fun q hq e => by have := HB.out q e; omega))
              replace HB : Hid (∀ q, v4.ownBlock = some q → wr.heap.size ≤ q) := Lib.hid (fun q hq => by
                rcases hkk q hq with e | e
                · exact HB.out q e
                · have := hot.out.size; omega)
              replace hot := hot2
              have hc4 := hot.out.cell' hc0 (fun f => f)
              clear hown hgrow hkk hgo hot2
              try clear hc3
              clear HX HG HD
              refine hK.out _ _ (fun _ => hc4.trans hc0.symm) (fun hHeld4 => ?_)
              replace hHeld4 := hHeld4 rfl
              clear hK K
              try simp only [List.getElem_toArray, List.getElem_cons_zero, List.getElem_cons_succ, Act.put, List.setIfInBounds_toArray, List.set_cons_zero, List.set_cons_succ]
              refine late.ready (rs := [20]) (by kernel_rfl) (by simp) ?_
              refine late.Each.cons rfl (fun K hK => ?_) late.Each.nil
              refine step_one (a := { tmps := _, defers := _ }) rfl _ _ rfl v4 ([(⟨at_, g⟩ : Tm)]) rfl HV.out _ 0 _ ([]) rfl (HT0.out _ _) (by simp) ?_
              rintro v5 W5 hown hgrow hkk
              have hgo := Only.of_grown hgrow
              replace HV : Hid (OwnO W5 v5 (insM ⟨at_, g⟩ l)) := Lib.hid (by rw [HI0.out]; simpa using hown)
              have hot2 : Hid (Only (fun _ => False) wr W5) := Lib.hid (hot.out.then hgo (fun q hq e => by have := HB.out q e; omega))
              replace HB : Hid (∀ q, v5.ownBlock = some q → wr.heap.size ≤ q) := Lib.hid (fun q hq => by
                rcases hkk q hq with e | e
                · exact HB.out q e
                · have := hot.out.size; omega)
              replace hot := hot2
              have hc5 := hot.out.cell' hc0 (fun f => f)
              clear hown hgrow hkk hgo hot2
              try clear hc4
              have hf5 : W5.frozen? ⟨p, 0, none⟩ = false := by rw [hot.out.frozen (World.block_lt_of_cell? wr _ hc0) (fun f => f)]; exact hf0
              obtain ⟨a2, c2, rfl, hr2, hl2, hm2, hn2, hb2⟩ := HV.out.form (by rw [insM_len]; omega)
              generalize hL : (insM ⟨at_, g⟩ l).length = L at *
              have HLL := Lib.hid hL
              have HL1 : Hid (L ≤ 901) := Lib.hid (by rw [← hL, insM_len]; omega)
              clear hL
              have HRR := Lib.hid hr2
              have HLM := Lib.hid hl2
              have HMM := Lib.hid hm2
              have HNN := Lib.hid hn2
              have HBB := Lib.hid hb2
              clear HV hr2 hl2 hm2 hn2 hb2
              refine hK.out _ _ (fun _ => hc5.trans hc0.symm) (fun hHeld5 => ?_)
              replace hHeld5 := hHeld5 rfl
              clear hK K
              try simp only [List.getElem_toArray, List.getElem_cons_zero, List.getElem_cons_succ, Act.put, List.setIfInBounds_toArray, List.set_cons_zero, List.set_cons_succ]
              refine late.take (i := 21) [22, 23] (v := ?_) rfl (by kernel_rfl) (by kernel_rfl) (by kernel_rfl) (by kernel_rfl) (fun _ _ _ h => h) (Or.inl ⟨by rfl, ?_⟩) (by assumption) ?_
              rotate_left 1
              · intro w' hSw
                try dsimp only at hSw
                go_simp
                try with_reducible rfl
              try simp only [List.getElem_toArray, List.getElem_cons_zero, List.getElem_cons_succ, Act.put, List.setIfInBounds_toArray, List.set_cons_zero, List.set_cons_succ]
              refine late.take (i := 22) [23] (v := ?_) rfl (by kernel_rfl) (by kernel_rfl) (by kernel_rfl) (by kernel_rfl) (fun _ _ _ h => h) (Or.inl ⟨by rfl, ?_⟩) (by assumption) ?_
              rotate_left 1
              · intro w' hSw
                try dsimp only at hSw
                go_simp
                try with_reducible rfl
              try simp only [List.getElem_toArray, List.getElem_cons_zero, List.getElem_cons_succ, Act.put, List.setIfInBounds_toArray, List.set_cons_zero, List.set_cons_succ]
              refine late.ready (rs := [23]) (by kernel_rfl) (by simp) ?_
              refine late.Each.cons rfl (fun K hK => ?_) late.Each.nil
              try simp only [List.getElem_toArray, List.getElem_cons_zero, List.getElem_cons_succ]
              go_simp
              obtain ⟨WZ, hWZ⟩ : ∃ x, x = W5.setCell ⟨p, 0, none⟩ (.slice a2 L c2) := ⟨_, rfl⟩
              rw [← hWZ]
              have HST : Hid (Only (fun x => x = p) W5 WZ) := Lib.hid (by rw [hWZ]; exact Only.set (fun x => x = p) W5 p 0 _ rfl)
              have HC9 : Hid (WZ.cell? ⟨p, 0, none⟩ = some (.slice a2 L c2)) := Lib.hid (by rw [hWZ]; exact cell_same hc5)
              have HF9 : Hid (WZ.frozen? ⟨p, 0, none⟩ = false) := Lib.hid (by rw [hWZ]; exact frozen_set.trans hf5)
              have hot9 : Hid (Only (fun q => q = p) wr WZ) := Lib.hid ((hot.out.mono (fun _ _ f => f.elim)).trans HST.out)
              have HBF : Hid (∀ y, a2 = some y → wr.heap.size ≤ y.block) := Lib.hid (fun y e => HB.out _ (HBB.out y e))
              have HEND := Lib.hid (HQ.out WZ a2 c2 ⟨by rw [HLL.out]; exact HC9.out, HF9.out, by rw [HLL.out]; exact HRR.out.only HST.out (fun y e h => by have := HBF.out y e; have := HPW.out; have h' : y.block = p := h; omega), fun y e h => by have := HBF.out y e; have := HPW.out; omega, by rw [HLL.out]; exact HLM.out, HMM.out, by rw [HLL.out]; have := HL1.out; omega, HNN.out⟩ HBF.out hot9.out)
              clear hWZ
              refine hK.out _ _ (fun h => by cases h) (fun _ => ?_)
              clear hK K
              try simp only [List.getElem_toArray, List.getElem_cons_zero, List.getElem_cons_succ, Act.put, List.setIfInBounds_toArray, List.set_cons_zero, List.set_cons_succ]
              refine late.done (by kernel_rfl) ?_ _
              refine NoPanic.normal ?_
              go_wp2_with fail
              all_goals
                go_ret
                exact HEND.out

            · try simp only [List.getElem_toArray, List.getElem_cons_zero, List.getElem_cons_succ]
              go_simp
              obtain ⟨W7, hW7⟩ : ∃ x, x = W1.alloc (.cells #[.int .i64 g, .int .i64 at_] 45) := ⟨_, rfl⟩
              obtain ⟨g7, hg7⟩ : ∃ x, x = W1.heap.size := ⟨_, rfl⟩
              rw [← hW7, ← hg7]
              have hal : Only (fun _ => False) W1 W7 := by rw [hW7]; exact (Only.refl _ _).alloc _
              have HX : Hid (ReadsO W7 (some ⟨g7, 0, none⟩) 1 [(⟨at_, g⟩ : Tm)]) := Lib.hid (reads_oneO (by rw [hW7]; exact alloc_newM _ _ _ _ _ _ hg7 rfl) (by rw [hW7]; exact alloc_newM _ _ _ _ _ _ hg7 rfl))
              have HG : Hid (g7 < W7.heap.size) := Lib.hid (World.block_lt_of_cell? W7 _ (show W7.cell? ⟨g7, 0, none⟩ = _ by rw [hW7]; exact alloc_newM _ _ _ _ _ _ hg7 rfl))
              have HD : Hid (∀ q, ((.slice (some ⟨g1, 0, none⟩) 0 0) : Value).ownBlock = some q → q ≠ g7) := Lib.hid (fun q e => by have := HV.out.lt e; omega)
              replace HV := Lib.hid (HV.out.only hal (fun _ _ f => f))
              replace hot : Hid (Only (fun _ => False) wr W7) := Lib.hid (hot.out.trans hal)
              have hc7 := hot.out.cell' hc0 (fun f => f)
              clear hW7 hg7 hal
              try clear hc1
              refine hK.out _ _ (fun _ => hc7.trans hc0.symm) (fun hHeld7 => ?_)
              replace hHeld7 := hHeld7 rfl
              clear hK K
              try simp only [List.getElem_toArray, List.getElem_cons_zero, List.getElem_cons_succ, Act.put, List.setIfInBounds_toArray, List.set_cons_zero, List.set_cons_succ]
              refine late.ready (rs := [8]) (by kernel_rfl) (by simp) ?_
              refine late.Each.cons rfl (fun K hK => ?_) late.Each.nil
              refine step_one (a := { tmps := _, defers := _ }) rfl _ _ rfl (.slice (some ⟨g1, 0, none⟩) 0 0) ([]) rfl HV.out _ 0 _ ([]) rfl (HT0.out _ _) (by simp only [List.length_nil]; omega) ?_
              rintro v8 W8 hown hgrow hkk
              have hgo := Only.of_grown hgrow
              replace HV : Hid (OwnO W8 v8 ([])) := Lib.hid (by simpa using hown)
              replace HX := Lib.hid (HX.out.only hgo (fun y e h => HD.out _ h (by rw [← Option.some.inj e])))
              replace HD : Hid (∀ q, v8.ownBlock = some q → q ≠ g7) := Lib.hid (fun q hq => by
                rcases hkk q hq with e | e
                · exact HD.out q e
                · have := HG.out; omega)
              replace HG := Lib.hid (Nat.lt_of_lt_of_le HG.out hgo.size)
              have hot2 : Hid (Only (fun _ => False) wr W8) := Lib.hid (hot.out.then hgo (fun q hq e => by have := HB.out q e; omega))
              replace HB : Hid (∀ q, v8.ownBlock = some q → wr.heap.size ≤ q) := Lib.hid (fun q hq => by
                rcases hkk q hq with e | e
                · exact HB.out q e
                · have := hot.out.size; omega)
              replace hot := hot2
              have hc8 := hot.out.cell' hc0 (fun f => f)
              clear hown hgrow hkk hgo hot2
              try clear hc7
              refine hK.out _ _ (fun _ => hc8.trans hc0.symm) (fun hHeld8 => ?_)
              replace hHeld8 := hHeld8 rfl
              clear hK K
              try simp only [List.getElem_toArray, List.getElem_cons_zero, List.getElem_cons_succ, Act.put, List.setIfInBounds_toArray, List.set_cons_zero, List.set_cons_succ]
              refine late.ready (rs := [13]) (by kernel_rfl) (by simp) ?_
              refine late.Each.cons rfl (fun K hK => ?_) late.Each.nil
              refine step_one (a := { tmps := _, defers := _ }) rfl _ _ rfl v8 ([]) rfl HV.out (some ⟨g7, 0, none⟩) 1 1 ([(⟨at_, g⟩ : Tm)]) rfl (HX.out) (by simp) ?_
              rintro v9 W9 hown hgrow hkk
              have hgo := Only.of_grown hgrow
              replace HV : Hid (OwnO W9 v9 ([(⟨at_, g⟩ : Tm)])) := Lib.hid (by simpa using hown)
              have hot2 : Hid (Only (fun _ => False) wr W9) := Lib.hid (hot.out.then hgo (fun q hq e => by have := HB.out q e; omega))
              replace HB : Hid (∀ q, v9.ownBlock = some q → wr.heap.size ≤ q) := Lib.hid (fun q hq => by
                rcases hkk q hq with e | e
                · exact HB.out q e
                · have := hot.out.size; omega)
              replace hot := hot2
              have hc9 := hot.out.cell' hc0 (fun f => f)
              clear hown hgrow hkk hgo hot2
              try clear hc8
              clear HX HG HD
              refine hK.out _ _ (fun _ => hc9.trans hc0.symm) (fun hHeld9 => ?_)
              replace hHeld9 := hHeld9 rfl
              clear hK K
              try simp only [List.getElem_toArray, List.getElem_cons_zero, List.getElem_cons_succ, Act.put, List.setIfInBounds_toArray, List.set_cons_zero, List.set_cons_succ]
              refine late.ready (rs := [20]) (by kernel_rfl) (by simp) ?_
              refine late.Each.cons rfl (fun K hK => ?_) late.Each.nil
              refine step_one (a := { tmps := _, defers := _ }) rfl _ _ rfl v9 ([(⟨at_, g⟩ : Tm)]) rfl HV.out _ 0 _ ([]) rfl (HT0.out _ _) (by simp) ?_
              rintro v10 W10 hown hgrow hkk
              have hgo := Only.of_grown hgrow
              replace HV : Hid (OwnO W10 v10 (insM ⟨at_, g⟩ l)) := Lib.hid (by rw [HI0.out]; simpa using hown)
              have hot2 : Hid (Only (fun _ => False) wr W10) := Lib.hid (hot.out.then hgo (fun q hq e => by have := HB.out q e; omega))
              replace HB : Hid (∀ q, v10.ownBlock = some q → wr.heap.size ≤ q) := Lib.hid (fun q hq => by
                rcases hkk q hq with e | e
                · exact HB.out q e
                · have := hot.out.size; omega)
              replace hot := hot2
              have hc10 := hot.out.cell' hc0 (fun f => f)
              clear hown hgrow hkk hgo hot2
              try clear hc9
              have hf10 : W10.frozen? ⟨p, 0, none⟩ = false := by rw [hot.out.frozen (World.block_lt_of_cell? wr _ hc0) (fun f => f)]; exact hf0
              obtain ⟨a2, c2, rfl, hr2, hl2, hm2, hn2, hb2⟩ := HV.out.form (by rw [insM_len]; omega)
              generalize hL : (insM ⟨at_, g⟩ l).length = L at *
              have HLL := Lib.hid hL
              have HL1 : Hid (L ≤ 901) := Lib.hid (by rw [← hL, insM_len]; omega)
              clear hL
              have HRR := Lib.hid hr2
              have HLM := Lib.hid hl2
              have HMM := Lib.hid hm2
              have HNN := Lib.hid hn2
              have HBB := Lib.hid hb2
              clear HV hr2 hl2 hm2 hn2 hb2
              refine hK.out _ _ (fun _ => hc10.trans hc0.symm) (fun hHeld10 => ?_)
              replace hHeld10 := hHeld10 rfl
              clear hK K
              try simp only [List.getElem_toArray, List.getElem_cons_zero, List.getElem_cons_succ, Act.put, List.setIfInBounds_toArray, List.set_cons_zero, List.set_cons_succ]
              refine late.take (i := 21) [22, 23] (v := ?_) rfl (by kernel_rfl) (by kernel_rfl) (by kernel_rfl) (by kernel_rfl) (fun _ _ _ h => h) (Or.inl ⟨by rfl, ?_⟩) (by assumption) ?_
              rotate_left 1
              · intro w' hSw
                try dsimp only at hSw
                go_simp
                try with_reducible rfl
              try simp only [List.getElem_toArray, List.getElem_cons_zero, List.getElem_cons_succ, Act.put, List.setIfInBounds_toArray, List.set_cons_zero, List.set_cons_succ]
              refine late.take (i := 22) [23] (v := ?_) rfl (by kernel_rfl) (by kernel_rfl) (by kernel_rfl) (by kernel_rfl) (fun _ _ _ h => h) (Or.inl ⟨by rfl, ?_⟩) (by assumption) ?_
              rotate_left 1
              · intro w' hSw
                try dsimp only at hSw
                go_simp
                try with_reducible rfl
              try simp only [List.getElem_toArray, List.getElem_cons_zero, List.getElem_cons_succ, Act.put, List.setIfInBounds_toArray, List.set_cons_zero, List.set_cons_succ]
              refine late.ready (rs := [23]) (by kernel_rfl) (by simp) ?_
              refine late.Each.cons rfl (fun K hK => ?_) late.Each.nil
              try simp only [List.getElem_toArray, List.getElem_cons_zero, List.getElem_cons_succ]
              go_simp
              obtain ⟨WZ, hWZ⟩ : ∃ x, x = W10.setCell ⟨p, 0, none⟩ (.slice a2 L c2) := ⟨_, rfl⟩
              rw [← hWZ]
              have HST : Hid (Only (fun x => x = p) W10 WZ) := Lib.hid (by rw [hWZ]; exact Only.set (fun x => x = p) W10 p 0 _ rfl)
              have HC9 : Hid (WZ.cell? ⟨p, 0, none⟩ = some (.slice a2 L c2)) := Lib.hid (by rw [hWZ]; exact cell_same hc10)
              have HF9 : Hid (WZ.frozen? ⟨p, 0, none⟩ = false) := Lib.hid (by rw [hWZ]; exact frozen_set.trans hf10)
              have hot9 : Hid (Only (fun q => q = p) wr WZ) := Lib.hid ((hot.out.mono (fun _ _ f => f.elim)).trans HST.out)
              have HBF : Hid (∀ y, a2 = some y → wr.heap.size ≤ y.block) := Lib.hid (fun y e => HB.out _ (HBB.out y e))
              have HEND := Lib.hid (HQ.out WZ a2 c2 ⟨by rw [HLL.out]; exact HC9.out, HF9.out, by rw [HLL.out]; exact HRR.out.only HST.out (fun y e h => by have := HBF.out y e; have := HPW.out; have h' : y.block = p := h; omega), fun y e h => by have := HBF.out y e; have := HPW.out; omega, by rw [HLL.out]; exact HLM.out, HMM.out, by rw [HLL.out]; have := HL1.out; omega, HNN.out⟩ HBF.out hot9.out)
              clear hWZ
              refine hK.out _ _ (fun h => by cases h) (fun _ => ?_)
              clear hK K
              try simp only [List.getElem_toArray, List.getElem_cons_zero, List.getElem_cons_succ, Act.put, List.setIfInBounds_toArray, List.set_cons_zero, List.set_cons_succ]
              refine late.done (by kernel_rfl) ?_ _
              refine NoPanic.normal ?_
              go_wp2_with fail
              all_goals
                go_ret
                exact HEND.out

          · try simp only [List.getElem_toArray, List.getElem_cons_zero, List.getElem_cons_succ]
            go_simp
            obtain ⟨W12, hW12⟩ : ∃ x, x = u0.alloc (.cells #[.int .i64 g, .int .i64 at_] 45) := ⟨_, rfl⟩
            obtain ⟨g12, hg12⟩ : ∃ x, x = u0.heap.size := ⟨_, rfl⟩
            rw [← hW12, ← hg12]
            have hal : Only (fun _ => False) u0 W12 := by rw [hW12]; exact (Only.refl _ _).alloc _
            have HX : Hid (ReadsO W12 (some ⟨g12, 0, none⟩) 1 [(⟨at_, g⟩ : Tm)]) := Lib.hid (reads_oneO (by rw [hW12]; exact alloc_newM _ _ _ _ _ _ hg12 rfl) (by rw [hW12]; exact alloc_newM _ _ _ _ _ _ hg12 rfl))
            have HG : Hid (g12 < W12.heap.size) := Lib.hid (World.block_lt_of_cell? W12 _ (show W12.cell? ⟨g12, 0, none⟩ = _ by rw [hW12]; exact alloc_newM _ _ _ _ _ _ hg12 rfl))
            replace hot : Hid (Only (fun _ => False) wr W12) := Lib.hid (hot.out.trans hal)
            have hc12 := hot.out.cell' hc0 (fun f => f)
            clear hW12 hg12 hal
            try clear hcu
            refine hK.out _ _ (fun _ => hc12.trans hc0.symm) (fun hHeld12 => ?_)
            replace hHeld12 := hHeld12 rfl
            clear hK K
            try simp only [List.getElem_toArray, List.getElem_cons_zero, List.getElem_cons_succ, Act.put, List.setIfInBounds_toArray, List.set_cons_zero, List.set_cons_succ]
            refine late.ready (rs := [1]) (by kernel_rfl) (by simp) ?_
            refine late.Each.cons rfl (fun K hK => ?_) late.Each.nil
            try simp only [List.getElem_toArray, List.getElem_cons_zero, List.getElem_cons_succ]
            go_simp
            obtain ⟨W13, hW13⟩ : ∃ x, x = W12.alloc (.cells #[] 45) := ⟨_, rfl⟩
            obtain ⟨g13, hg13⟩ : ∃ x, x = W12.heap.size := ⟨_, rfl⟩
            rw [← hW13, ← hg13]
            have hal : Only (fun _ => False) W12 W13 := by rw [hW13]; exact (Only.refl _ _).alloc _
            have HV : Hid (OwnO W13 (.slice (some ⟨g13, 0, none⟩) 0 0) []) := Lib.hid (by rw [hW13, hg13]; exact World.ownsRow_lit W12 #[] 0 (Nat.zero_le _) (by decide) rfl)
            have HB : Hid (∀ q, (Value.slice (some ⟨g13, 0, none⟩) 0 0).ownBlock = some q → wr.heap.size ≤ q) := Lib.hid (fun q e => by
              have e' : g13 = q := by simpa [Value.ownBlock] using e
              have := hot.out.size; omega)
            have HD : Hid (∀ q, (Value.slice (some ⟨g13, 0, none⟩) 0 0).ownBlock = some q → q ≠ g12) := Lib.hid (fun q e => by
              have e' : g13 = q := by simpa [Value.ownBlock] using e
              have := HG.out; omega)
            replace HX := Lib.hid (HX.out.only hal (fun _ _ f => f))
            replace HG := Lib.hid (Nat.lt_of_lt_of_le HG.out hal.size)
            replace hot : Hid (Only (fun _ => False) wr W13) := Lib.hid (hot.out.trans hal)
            have hc13 := hot.out.cell' hc0 (fun f => f)
            clear hW13 hg13 hal
            try clear hc12
            refine hK.out _ _ (fun _ => hc13.trans hc0.symm) (fun hHeld13 => ?_)
            replace hHeld13 := hHeld13 rfl
            clear hK K
            try simp only [List.getElem_toArray, List.getElem_cons_zero, List.getElem_cons_succ, Act.put, List.setIfInBounds_toArray, List.set_cons_zero, List.set_cons_succ]
            refine late.ready (rs := [8]) (by kernel_rfl) (by simp) ?_
            refine late.Each.cons rfl (fun K hK => ?_) late.Each.nil
            refine step_one (a := { tmps := _, defers := _ }) rfl _ _ rfl (.slice (some ⟨g13, 0, none⟩) 0 0) ([]) rfl HV.out _ 0 _ ([]) rfl (HT0.out _ _) (by simp only [List.length_nil]; omega) ?_
            rintro v14 W14 hown hgrow hkk
            have hgo := Only.of_grown hgrow
            replace HV : Hid (OwnO W14 v14 ([])) := Lib.hid (by simpa using hown)
            replace HX := Lib.hid (HX.out.only hgo (fun y e h => HD.out _ h (by rw [← Option.some.inj e])))
            replace HD : Hid (∀ q, v14.ownBlock = some q → q ≠ g12) := Lib.hid (fun q hq => by
              rcases hkk q hq with e | e
              · exact HD.out q e
              · have := HG.out; omega)
            replace HG := Lib.hid (Nat.lt_of_lt_of_le HG.out hgo.size)
            have hot2 : Hid (Only (fun _ => False) wr W14) := Lib.hid (hot.out.then hgo (fun q hq e => by have := HB.out q e; omega))
            replace HB : Hid (∀ q, v14.ownBlock = some q → wr.heap.size ≤ q) := Lib.hid (fun q hq => by
              rcases hkk q hq with e | e
              · exact HB.out q e
              · have := hot.out.size; omega)
            replace hot := hot2
            have hc14 := hot.out.cell' hc0 (fun f => f)
            clear hown hgrow hkk hgo hot2
            try clear hc13
            refine hK.out _ _ (fun _ => hc14.trans hc0.symm) (fun hHeld14 => ?_)
            replace hHeld14 := hHeld14 rfl
            clear hK K
            try simp only [List.getElem_toArray, List.getElem_cons_zero, List.getElem_cons_succ, Act.put, List.setIfInBounds_toArray, List.set_cons_zero, List.set_cons_succ]
            refine late.ready (rs := [13]) (by kernel_rfl) (by simp) ?_
            refine late.Each.cons rfl (fun K hK => ?_) late.Each.nil
            refine step_one (a := { tmps := _, defers := _ }) rfl _ _ rfl v14 ([]) rfl HV.out (some ⟨g12, 0, none⟩) 1 1 ([(⟨at_, g⟩ : Tm)]) rfl (HX.out) (by simp) ?_
            rintro v15 W15 hown hgrow hkk
            have hgo := Only.of_grown hgrow
            replace HV : Hid (OwnO W15 v15 ([(⟨at_, g⟩ : Tm)])) := Lib.hid (by simpa using hown)
            have hot2 : Hid (Only (fun _ => False) wr W15) := Lib.hid (hot.out.then hgo (fun q hq e => by have := HB.out q e; omega))
            replace HB : Hid (∀ q, v15.ownBlock = some q → wr.heap.size ≤ q) := Lib.hid (fun q hq => by
              rcases hkk q hq with e | e
              · exact HB.out q e
              · have := hot.out.size; omega)
            replace hot := hot2
            have hc15 := hot.out.cell' hc0 (fun f => f)
            clear hown hgrow hkk hgo hot2
            try clear hc14
            clear HX HG HD
            refine hK.out _ _ (fun _ => hc15.trans hc0.symm) (fun hHeld15 => ?_)
            replace hHeld15 := hHeld15 rfl
            clear hK K
            try simp only [List.getElem_toArray, List.getElem_cons_zero, List.getElem_cons_succ, Act.put, List.setIfInBounds_toArray, List.set_cons_zero, List.set_cons_succ]
            refine late.ready (rs := [20]) (by kernel_rfl) (by simp) ?_
            refine late.Each.cons rfl (fun K hK => ?_) late.Each.nil
            refine step_one (a := { tmps := _, defers := _ }) rfl _ _ rfl v15 ([(⟨at_, g⟩ : Tm)]) rfl HV.out _ 0 _ ([]) rfl (HT0.out _ _) (by simp) ?_
            rintro v16 W16 hown hgrow hkk
            have hgo := Only.of_grown hgrow
            replace HV : Hid (OwnO W16 v16 (insM ⟨at_, g⟩ l)) := Lib.hid (by rw [HI0.out]; simpa using hown)
            have hot2 : Hid (Only (fun _ => False) wr W16) := Lib.hid (hot.out.then hgo (fun q hq e => by have := HB.out q e; omega))
            replace HB : Hid (∀ q, v16.ownBlock = some q → wr.heap.size ≤ q) := Lib.hid (fun q hq => by
              rcases hkk q hq with e | e
              · exact HB.out q e
              · have := hot.out.size; omega)
            replace hot := hot2
            have hc16 := hot.out.cell' hc0 (fun f => f)
            clear hown hgrow hkk hgo hot2
            try clear hc15
            have hf16 : W16.frozen? ⟨p, 0, none⟩ = false := by rw [hot.out.frozen (World.block_lt_of_cell? wr _ hc0) (fun f => f)]; exact hf0
            obtain ⟨a2, c2, rfl, hr2, hl2, hm2, hn2, hb2⟩ := HV.out.form (by rw [insM_len]; omega)
            generalize hL : (insM ⟨at_, g⟩ l).length = L at *
            have HLL := Lib.hid hL
            have HL1 : Hid (L ≤ 901) := Lib.hid (by rw [← hL, insM_len]; omega)
            clear hL
            have HRR := Lib.hid hr2
            have HLM := Lib.hid hl2
            have HMM := Lib.hid hm2
            have HNN := Lib.hid hn2
            have HBB := Lib.hid hb2
            clear HV hr2 hl2 hm2 hn2 hb2
            refine hK.out _ _ (fun _ => hc16.trans hc0.symm) (fun hHeld16 => ?_)
            replace hHeld16 := hHeld16 rfl
            clear hK K
            try simp only [List.getElem_toArray, List.getElem_cons_zero, List.getElem_cons_succ, Act.put, List.setIfInBounds_toArray, List.set_cons_zero, List.set_cons_succ]
            refine late.take (i := 21) [22, 23] (v := ?_) rfl (by kernel_rfl) (by kernel_rfl) (by kernel_rfl) (by kernel_rfl) (fun _ _ _ h => h) (Or.inl ⟨by rfl, ?_⟩) (by assumption) ?_
            rotate_left 1
            · intro w' hSw
              try dsimp only at hSw
              go_simp
              try with_reducible rfl
            try simp only [List.getElem_toArray, List.getElem_cons_zero, List.getElem_cons_succ, Act.put, List.setIfInBounds_toArray, List.set_cons_zero, List.set_cons_succ]
            refine late.take (i := 22) [23] (v := ?_) rfl (by kernel_rfl) (by kernel_rfl) (by kernel_rfl) (by kernel_rfl) (fun _ _ _ h => h) (Or.inl ⟨by rfl, ?_⟩) (by assumption) ?_
            rotate_left 1
            · intro w' hSw
              try dsimp only at hSw
              go_simp
              try with_reducible rfl
            try simp only [List.getElem_toArray, List.getElem_cons_zero, List.getElem_cons_succ, Act.put, List.setIfInBounds_toArray, List.set_cons_zero, List.set_cons_succ]
            refine late.ready (rs := [23]) (by kernel_rfl) (by simp) ?_
            refine late.Each.cons rfl (fun K hK => ?_) late.Each.nil
            try simp only [List.getElem_toArray, List.getElem_cons_zero, List.getElem_cons_succ]
            go_simp
            obtain ⟨WZ, hWZ⟩ : ∃ x, x = W16.setCell ⟨p, 0, none⟩ (.slice a2 L c2) := ⟨_, rfl⟩
            rw [← hWZ]
            have HST : Hid (Only (fun x => x = p) W16 WZ) := Lib.hid (by rw [hWZ]; exact Only.set (fun x => x = p) W16 p 0 _ rfl)
            have HC9 : Hid (WZ.cell? ⟨p, 0, none⟩ = some (.slice a2 L c2)) := Lib.hid (by rw [hWZ]; exact cell_same hc16)
            have HF9 : Hid (WZ.frozen? ⟨p, 0, none⟩ = false) := Lib.hid (by rw [hWZ]; exact frozen_set.trans hf16)
            have hot9 : Hid (Only (fun q => q = p) wr WZ) := Lib.hid ((hot.out.mono (fun _ _ f => f.elim)).trans HST.out)
            have HBF : Hid (∀ y, a2 = some y → wr.heap.size ≤ y.block) := Lib.hid (fun y e => HB.out _ (HBB.out y e))
            have HEND := Lib.hid (HQ.out WZ a2 c2 ⟨by rw [HLL.out]; exact HC9.out, HF9.out, by rw [HLL.out]; exact HRR.out.only HST.out (fun y e h => by have := HBF.out y e; have := HPW.out; have h' : y.block = p := h; omega), fun y e h => by have := HBF.out y e; have := HPW.out; omega, by rw [HLL.out]; exact HLM.out, HMM.out, by rw [HLL.out]; have := HL1.out; omega, HNN.out⟩ HBF.out hot9.out)
            clear hWZ
            refine hK.out _ _ (fun h => by cases h) (fun _ => ?_)
            clear hK K
            try simp only [List.getElem_toArray, List.getElem_cons_zero, List.getElem_cons_succ, Act.put, List.setIfInBounds_toArray, List.set_cons_zero, List.set_cons_succ]
            refine late.done (by kernel_rfl) ?_ _
            refine NoPanic.normal ?_
            go_wp2_with fail
            all_goals
              go_ret
              exact HEND.out
      · obtain ⟨b, off, rfl, hcell⟩ := hrd.2.resolve_left hz
        have HT1 : Hid (∀ w', Only (fun _ => False) wr w' → ReadsO w' (some ⟨b, off, none⟩) k (l.take k)) := Lib.hid fun w' ho => ⟨by have := HN.out; rw [List.length_take]; omega, .inr ⟨b, off, rfl, fun j hj => by
          obtain ⟨q0, q1⟩ := hcell j (by omega)
          have e : (l.take k).getD j default = l.getD j default := by simp [List.getD, hj]
          rw [e]
          exact ⟨ho.cell' q0 (fun f => f), ho.cell' q1 (fun f => f)⟩⟩⟩
        have HT2 : Hid (∀ w', Only (fun _ => False) wr w' → ReadsO w' (if c1 = k then some (⟨b, off, none⟩ : Addr) else some ⟨b, off + k * 2, none⟩) (n - k) (l.drop k)) := Lib.hid fun w' ho => by
          refine ⟨by have := HN.out; rw [List.length_drop]; omega, ?_⟩
          by_cases hz : n - k = 0
          · exact .inl hz
          · rw [if_neg (by omega)]
            refine .inr ⟨b, off + k * 2, rfl, fun j hj => ?_⟩
            obtain ⟨q0, q1⟩ := hcell (k + j) (by omega)
            have e : (l.drop k).getD j default = l.getD (k + j) default := by simp [List.getD]
            rw [e, show off + k * 2 + j * 2 = off + (k + j) * 2 by omega]
            exact ⟨ho.cell' q0 (fun f => f), ho.cell' q1 (fun f => f)⟩
        clear hrd hu8 hcell
        go_upto_region 9 with fail
        refine wp_region_noPanic ?_
        refine late.region (fun w' => w'.cell? ⟨p, 0, none⟩ = wr.cell? ⟨p, 0, none⟩) (fun j => [23].contains j) (by kernel_rfl) (((Only.refl (fun _ => False) wr).drew.cell' hc0 (fun f => f)).trans hc0.symm) (fun hHeld => ?_)
        obtain ⟨u0, hu0⟩ : ∃ x, x = wr.drew := ⟨_, rfl⟩
        rw [← hu0] at hHeld ⊢
        have hot : Hid (Only (fun _ => False) wr u0) := Lib.hid (by rw [hu0]; exact (Only.refl _ _).drew)
        have hcu := hot.out.cell' hc0 (fun f => f)
        clear hu0
        refine late.take (i := 0) [21, 22, 23] (v := ?_) rfl (by kernel_rfl) (by kernel_rfl) (by kernel_rfl) (by kernel_rfl) (fun _ _ _ h => h) (Or.inl ⟨by rfl, ?_⟩) (by assumption) ?_
        rotate_left 1
        · intro w' hSw
          try dsimp only at hSw
          go_simp
          try with_reducible rfl
        try simp only [List.getElem_toArray, List.getElem_cons_zero, Act.put, List.setIfInBounds_toArray, List.set_cons_zero, List.set_cons_succ]
        refine late.take (i := 2) [3, 4, 5, 7, 8, 13, 20, 21, 22, 23] (v := ?_) rfl (by kernel_rfl) (by kernel_rfl) (by kernel_rfl) (by kernel_rfl) (fun _ _ _ h => h) (Or.inl ⟨by rfl, ?_⟩) (by assumption) ?_
        rotate_left 1
        · intro w' hSw
          try dsimp only at hSw
          go_simp
          try with_reducible rfl
        try simp only [List.getElem_toArray, List.getElem_cons_zero, List.getElem_cons_succ, Act.put, List.setIfInBounds_toArray, List.set_cons_zero, List.set_cons_succ]
        refine late.take (i := 3) [4, 5, 7, 8, 13, 20, 21, 22, 23] (v := ?_) rfl (by kernel_rfl) (by kernel_rfl) (by kernel_rfl) (by kernel_rfl) (fun _ _ _ h => h) (Or.inl ⟨by rfl, ?_⟩) (by assumption) ?_
        rotate_left 1
        · intro w' hSw
          try dsimp only at hSw
          go_simp
          try with_reducible rfl
        try simp only [List.getElem_toArray, List.getElem_cons_zero, List.getElem_cons_succ, Act.put, List.setIfInBounds_toArray, List.set_cons_zero, List.set_cons_succ]
        refine late.take (i := 4) [5, 7, 8, 13, 20, 21, 22, 23] (v := ?_) rfl (by kernel_rfl) (by kernel_rfl) (by kernel_rfl) (by kernel_rfl) (fun _ _ _ h => h) (Or.inl ⟨by rfl, ?_⟩) (by assumption) ?_
        rotate_left 1
        · intro w' hSw
          try dsimp only at hSw
          go_simp
          try with_reducible rfl
        try simp only [List.getElem_toArray, List.getElem_cons_zero, List.getElem_cons_succ, Act.put, List.setIfInBounds_toArray, List.set_cons_zero, List.set_cons_succ]
        refine late.take (i := 5) [7, 8, 13, 20, 21, 22, 23] (v := ?_) rfl (by kernel_rfl) (by kernel_rfl) (by kernel_rfl) (by kernel_rfl) (fun _ _ _ h => h) (Or.inl ⟨by rfl, ?_⟩) (by assumption) ?_
        rotate_left 1
        · intro w' hSw
          try dsimp only at hSw
          go_simp
          try with_reducible rfl
        try simp only [List.getElem_toArray, List.getElem_cons_zero, List.getElem_cons_succ, Act.put, List.setIfInBounds_toArray, List.set_cons_zero, List.set_cons_succ]
        refine late.take (i := 6) [7, 8, 13, 20, 21, 22, 23] (v := ?_) rfl (by kernel_rfl) (by kernel_rfl) (by kernel_rfl) (by kernel_rfl) (fun _ _ _ h => h) (Or.inl ⟨by rfl, ?_⟩) (by assumption) ?_
        rotate_left 1
        · intro w' hSw
          try dsimp only at hSw
          go_simp
          try with_reducible rfl
        try simp only [List.getElem_toArray, List.getElem_cons_zero, List.getElem_cons_succ, Act.put, List.setIfInBounds_toArray, List.set_cons_zero, List.set_cons_succ]
        refine late.take (i := 7) [8, 13, 20, 21, 22, 23] (v := ?_) rfl (by kernel_rfl) (by kernel_rfl) (by kernel_rfl) (by kernel_rfl) (fun _ _ _ h => h) (Or.inl ⟨by rfl, ?_⟩) (by assumption) ?_
        rotate_left 1
        · intro w' hSw
          try dsimp only at hSw
          go_simp
          try with_reducible rfl
        try simp only [List.getElem_toArray, List.getElem_cons_zero, List.getElem_cons_succ, Act.put, List.setIfInBounds_toArray, List.set_cons_zero, List.set_cons_succ]
        refine late.take (i := 9) [11, 12, 13, 20, 21, 22, 23] (v := ?_) rfl (by kernel_rfl) (by kernel_rfl) (by kernel_rfl) (by kernel_rfl) (fun _ _ _ h => h) (Or.inl ⟨by rfl, ?_⟩) (by assumption) ?_
        rotate_left 1
        · intro w' hSw
          try dsimp only at hSw
          go_simp
          try with_reducible rfl
        try simp only [List.getElem_toArray, List.getElem_cons_zero, List.getElem_cons_succ, Act.put, List.setIfInBounds_toArray, List.set_cons_zero, List.set_cons_succ]
        refine late.take (i := 10) [11, 12, 13, 20, 21, 22, 23] (v := ?_) rfl (by kernel_rfl) (by kernel_rfl) (by kernel_rfl) (by kernel_rfl) (fun _ _ _ h => h) (Or.inl ⟨by rfl, ?_⟩) (by assumption) ?_
        rotate_left 1
        · intro w' hSw
          try dsimp only at hSw
          go_simp
          try with_reducible rfl
        try simp only [List.getElem_toArray, List.getElem_cons_zero, List.getElem_cons_succ, Act.put, List.setIfInBounds_toArray, List.set_cons_zero, List.set_cons_succ]
        refine late.take (i := 11) [12, 13, 20, 21, 22, 23] (v := ?_) rfl (by kernel_rfl) (by kernel_rfl) (by kernel_rfl) (by kernel_rfl) (fun _ _ _ h => h) (Or.inl ⟨by rfl, ?_⟩) (by assumption) ?_
        rotate_left 1
        · intro w' hSw
          try dsimp only at hSw
          go_simp
          try with_reducible rfl
        try simp only [List.getElem_toArray, List.getElem_cons_zero, List.getElem_cons_succ, Act.put, List.setIfInBounds_toArray, List.set_cons_zero, List.set_cons_succ]
        refine late.take (i := 14) [15, 16, 17, 19, 20, 21, 22, 23] (v := ?_) rfl (by kernel_rfl) (by kernel_rfl) (by kernel_rfl) (by kernel_rfl) (fun _ _ _ h => h) (Or.inl ⟨by rfl, ?_⟩) (by assumption) ?_
        rotate_left 1
        · intro w' hSw
          try dsimp only at hSw
          go_simp
          try with_reducible rfl
        try simp only [List.getElem_toArray, List.getElem_cons_zero, List.getElem_cons_succ, Act.put, List.setIfInBounds_toArray, List.set_cons_zero, List.set_cons_succ]
        refine late.take (i := 15) [16, 17, 19, 20, 21, 22, 23] (v := ?_) rfl (by kernel_rfl) (by kernel_rfl) (by kernel_rfl) (by kernel_rfl) (fun _ _ _ h => h) (Or.inl ⟨by rfl, ?_⟩) (by assumption) ?_
        rotate_left 1
        · intro w' hSw
          try dsimp only at hSw
          go_simp
          try with_reducible rfl
        try simp only [List.getElem_toArray, List.getElem_cons_zero, List.getElem_cons_succ, Act.put, List.setIfInBounds_toArray, List.set_cons_zero, List.set_cons_succ]
        refine late.take (i := 16) [17, 19, 20, 21, 22, 23] (v := ?_) rfl (by kernel_rfl) (by kernel_rfl) (by kernel_rfl) (by kernel_rfl) (fun _ _ _ h => h) (Or.inl ⟨by rfl, ?_⟩) (by assumption) ?_
        rotate_left 1
        · intro w' hSw
          try dsimp only at hSw
          go_simp
          try with_reducible rfl
        try simp only [List.getElem_toArray, List.getElem_cons_zero, List.getElem_cons_succ, Act.put, List.setIfInBounds_toArray, List.set_cons_zero, List.set_cons_succ]
        refine late.take (i := 17) [19, 20, 21, 22, 23] (v := ?_) rfl (by kernel_rfl) (by kernel_rfl) (by kernel_rfl) (by kernel_rfl) (fun _ _ _ h => h) (Or.inl ⟨by rfl, ?_⟩) (by assumption) ?_
        rotate_left 1
        · intro w' hSw
          try dsimp only at hSw
          go_simp
          try with_reducible rfl
        try simp only [List.getElem_toArray, List.getElem_cons_zero, List.getElem_cons_succ, Act.put, List.setIfInBounds_toArray, List.set_cons_zero, List.set_cons_succ]
        refine late.take (i := 18) [19, 20, 21, 22, 23] (v := ?_) rfl (by kernel_rfl) (by kernel_rfl) (by kernel_rfl) (by kernel_rfl) (fun _ _ _ h => h) (Or.inl ⟨by rfl, ?_⟩) (by assumption) ?_
        rotate_left 1
        · intro w' hSw
          try dsimp only at hSw
          go_simp
          try with_reducible rfl
        try simp only [List.getElem_toArray, List.getElem_cons_zero, List.getElem_cons_succ, Act.put, List.setIfInBounds_toArray, List.set_cons_zero, List.set_cons_succ]
        refine late.take (i := 19) [20, 21, 22, 23] (v := ?_) rfl (by kernel_rfl) (by kernel_rfl) (by kernel_rfl) (by kernel_rfl) (fun _ _ _ h => h) (Or.inl ⟨by rfl, ?_⟩) (by assumption) ?_
        rotate_left 1
        · intro w' hSw
          try dsimp only at hSw
          go_simp
          try with_reducible rfl
        try simp only [List.getElem_toArray, List.getElem_cons_zero, List.getElem_cons_succ, Act.put, List.setIfInBounds_toArray, List.set_cons_zero, List.set_cons_succ]
        refine late.ready (rs := [1, 12]) (by kernel_rfl) (by simp) ?_
        refine late.Each.cons rfl (fun K hK => ?_) (late.Each.cons rfl (fun K hK => ?_) late.Each.nil)
        · try simp only [List.getElem_toArray, List.getElem_cons_zero, List.getElem_cons_succ]
          go_simp
          obtain ⟨W1, hW1⟩ : ∃ x, x = u0.alloc (.cells #[] 45) := ⟨_, rfl⟩
          obtain ⟨g1, hg1⟩ : ∃ x, x = u0.heap.size := ⟨_, rfl⟩
          rw [← hW1, ← hg1]
          have hal : Only (fun _ => False) u0 W1 := by rw [hW1]; exact (Only.refl _ _).alloc _
          have HV : Hid (OwnO W1 (.slice (some ⟨g1, 0, none⟩) 0 0) []) := Lib.hid (by rw [hW1, hg1]; exact World.ownsRow_lit u0 #[] 0 (Nat.zero_le _) (by decide) rfl)
          have HB : Hid (∀ q, (Value.slice (some ⟨g1, 0, none⟩) 0 0).ownBlock = some q → wr.heap.size ≤ q) := Lib.hid (fun q e => by
            have e' : g1 = q := by simpa [Value.ownBlock] using e
            have := hot.out.size; omega)
          replace hot : Hid (Only (fun _ => False) wr W1) := Lib.hid (hot.out.trans hal)
          have hc1 := hot.out.cell' hc0 (fun f => f)
          clear hW1 hg1 hal
          try clear hcu
          refine hK.out _ _ (fun _ => hc1.trans hc0.symm) (fun hHeld1 => ?_)
          replace hHeld1 := hHeld1 rfl
          clear hK K
          try simp only [List.getElem_toArray, List.getElem_cons_zero, List.getElem_cons_succ, Act.put, List.setIfInBounds_toArray, List.set_cons_zero, List.set_cons_succ]
          refine late.ready (rs := [8, 12]) (by kernel_rfl) (by simp) ?_
          refine late.Each.cons rfl (fun K hK => ?_) (late.Each.cons rfl (fun K hK => ?_) late.Each.nil)
          · refine step_one (a := { tmps := _, defers := _ }) rfl _ _ rfl (.slice (some ⟨g1, 0, none⟩) 0 0) ([]) rfl HV.out (some ⟨b, off, none⟩) k _ (l.take k) rfl (HT1.out _ hot.out) (by simp only [List.length_nil]; omega) ?_
            rintro v2 W2 hown hgrow hkk
            have hgo := Only.of_grown hgrow
            replace HV : Hid (OwnO W2 v2 (l.take k)) := Lib.hid (by simpa using hown)
            have hot2 : Hid (Only (fun _ => False) wr W2) := Lib.hid (hot.out.then hgo (fun q hq e => by have := HB.out q e; omega))
            replace HB : Hid (∀ q, v2.ownBlock = some q → wr.heap.size ≤ q) := Lib.hid (fun q hq => by
              rcases hkk q hq with e | e
              · exact HB.out q e
              · have := hot.out.size; omega)
            replace hot := hot2
            have hc2 := hot.out.cell' hc0 (fun f => f)
            clear hown hgrow hkk hgo hot2
            try clear hc1
            refine hK.out _ _ (fun _ => hc2.trans hc0.symm) (fun hHeld2 => ?_)
            replace hHeld2 := hHeld2 rfl
            clear hK K
            try simp only [List.getElem_toArray, List.getElem_cons_zero, List.getElem_cons_succ, Act.put, List.setIfInBounds_toArray, List.set_cons_zero, List.set_cons_succ]
            refine late.ready (rs := [12]) (by kernel_rfl) (by simp) ?_
            refine late.Each.cons rfl (fun K hK => ?_) late.Each.nil
            try simp only [List.getElem_toArray, List.getElem_cons_zero, List.getElem_cons_succ]
            go_simp
            obtain ⟨W3, hW3⟩ : ∃ x, x = W2.alloc (.cells #[.int .i64 g, .int .i64 at_] 45) := ⟨_, rfl⟩
            obtain ⟨g3, hg3⟩ : ∃ x, x = W2.heap.size := ⟨_, rfl⟩
            rw [← hW3, ← hg3]
            have hal : Only (fun _ => False) W2 W3 := by rw [hW3]; exact (Only.refl _ _).alloc _
            have HX : Hid (ReadsO W3 (some ⟨g3, 0, none⟩) 1 [(⟨at_, g⟩ : Tm)]) := Lib.hid (reads_oneO (by rw [hW3]; exact alloc_newM _ _ _ _ _ _ hg3 rfl) (by rw [hW3]; exact alloc_newM _ _ _ _ _ _ hg3 rfl))
            have HG : Hid (g3 < W3.heap.size) := Lib.hid (World.block_lt_of_cell? W3 _ (show W3.cell? ⟨g3, 0, none⟩ = _ by rw [hW3]; exact alloc_newM _ _ _ _ _ _ hg3 rfl))
            have HD : Hid (∀ q, (v2 : Value).ownBlock = some q → q ≠ g3) := Lib.hid (fun q e => by have := HV.out.lt e; omega)
            replace HV := Lib.hid (HV.out.only hal (fun _ _ f => f))
            replace hot : Hid (Only (fun _ => False) wr W3) := Lib.hid (hot.out.trans hal)
            have hc3 := hot.out.cell' hc0 (fun f => f)
            clear hW3 hg3 hal
            try clear hc2
            refine hK.out _ _ (fun _ => hc3.trans hc0.symm) (fun hHeld3 => ?_)
            replace hHeld3 := hHeld3 rfl
            clear hK K
            try simp only [List.getElem_toArray, List.getElem_cons_zero, List.getElem_cons_succ, Act.put, List.setIfInBounds_toArray, List.set_cons_zero, List.set_cons_succ]
            refine late.ready (rs := [13]) (by kernel_rfl) (by simp) ?_
            refine late.Each.cons rfl (fun K hK => ?_) late.Each.nil
            refine step_one (a := { tmps := _, defers := _ }) rfl _ _ rfl v2 (l.take k) rfl HV.out (some ⟨g3, 0, none⟩) 1 1 ([(⟨at_, g⟩ : Tm)]) rfl (HX.out) (by rw [List.length_take]; omega) ?_
            rintro v4 W4 hown hgrow hkk
            have hgo := Only.of_grown hgrow
            replace HV : Hid (OwnO W4 v4 (l.take k ++ [(⟨at_, g⟩ : Tm)])) := Lib.hid (by simpa using hown)
            have hot2 : Hid (Only (fun _ => False) wr W4) := Lib.hid (hot.out.then hgo (fun q hq e => by have := HB.out q e; omega))
            replace HB : Hid (∀ q, v4.ownBlock = some q → wr.heap.size ≤ q) := Lib.hid (fun q hq => by
              rcases hkk q hq with e | e
              · exact HB.out q e
              · have := hot.out.size; omega)
            replace hot := hot2
            have hc4 := hot.out.cell' hc0 (fun f => f)
            clear hown hgrow hkk hgo hot2
            try clear hc3
            clear HX HG HD
            refine hK.out _ _ (fun _ => hc4.trans hc0.symm) (fun hHeld4 => ?_)
            replace hHeld4 := hHeld4 rfl
            clear hK K
            try simp only [List.getElem_toArray, List.getElem_cons_zero, List.getElem_cons_succ, Act.put, List.setIfInBounds_toArray, List.set_cons_zero, List.set_cons_succ]
            refine late.ready (rs := [20]) (by kernel_rfl) (by simp) ?_
            refine late.Each.cons rfl (fun K hK => ?_) late.Each.nil
            refine step_one (a := { tmps := _, defers := _ }) rfl _ _ rfl v4 (l.take k ++ [(⟨at_, g⟩ : Tm)]) rfl HV.out _ (n - k) _ (l.drop k) rfl (HT2.out _ hot.out) (by have := HN.out; rw [List.length_append, List.length_take]; simp only [List.length_cons, List.length_nil]; omega) ?_
            rintro v5 W5 hown hgrow hkk
            have hgo := Only.of_grown hgrow
            replace HV : Hid (OwnO W5 v5 (insM ⟨at_, g⟩ l)) := Lib.hid (by rw [← HINS.out]; simpa using hown)
            have hot2 : Hid (Only (fun _ => False) wr W5) := Lib.hid (hot.out.then hgo (fun q hq e => by have := HB.out q e; omega))
            replace HB : Hid (∀ q, v5.ownBlock = some q → wr.heap.size ≤ q) := Lib.hid (fun q hq => by
              rcases hkk q hq with e | e
              · exact HB.out q e
              · have := hot.out.size; omega)
            replace hot := hot2
            have hc5 := hot.out.cell' hc0 (fun f => f)
            clear hown hgrow hkk hgo hot2
            try clear hc4
            have hf5 : W5.frozen? ⟨p, 0, none⟩ = false := by rw [hot.out.frozen (World.block_lt_of_cell? wr _ hc0) (fun f => f)]; exact hf0
            obtain ⟨a2, c2, rfl, hr2, hl2, hm2, hn2, hb2⟩ := HV.out.form (by rw [insM_len]; omega)
            generalize hL : (insM ⟨at_, g⟩ l).length = L at *
            have HLL := Lib.hid hL
            have HL1 : Hid (L ≤ 901) := Lib.hid (by rw [← hL, insM_len]; omega)
            clear hL
            have HRR := Lib.hid hr2
            have HLM := Lib.hid hl2
            have HMM := Lib.hid hm2
            have HNN := Lib.hid hn2
            have HBB := Lib.hid hb2
            clear HV hr2 hl2 hm2 hn2 hb2
            refine hK.out _ _ (fun _ => hc5.trans hc0.symm) (fun hHeld5 => ?_)
            replace hHeld5 := hHeld5 rfl
            clear hK K
            try simp only [List.getElem_toArray, List.getElem_cons_zero, List.getElem_cons_succ, Act.put, List.setIfInBounds_toArray, List.set_cons_zero, List.set_cons_succ]
            refine late.take (i := 21) [22, 23] (v := ?_) rfl (by kernel_rfl) (by kernel_rfl) (by kernel_rfl) (by kernel_rfl) (fun _ _ _ h => h) (Or.inl ⟨by rfl, ?_⟩) (by assumption) ?_
            rotate_left 1
            · intro w' hSw
              try dsimp only at hSw
              go_simp
              try with_reducible rfl
            try simp only [List.getElem_toArray, List.getElem_cons_zero, List.getElem_cons_succ, Act.put, List.setIfInBounds_toArray, List.set_cons_zero, List.set_cons_succ]
            refine late.take (i := 22) [23] (v := ?_) rfl (by kernel_rfl) (by kernel_rfl) (by kernel_rfl) (by kernel_rfl) (fun _ _ _ h => h) (Or.inl ⟨by rfl, ?_⟩) (by assumption) ?_
            rotate_left 1
            · intro w' hSw
              try dsimp only at hSw
              go_simp
              try with_reducible rfl
            try simp only [List.getElem_toArray, List.getElem_cons_zero, List.getElem_cons_succ, Act.put, List.setIfInBounds_toArray, List.set_cons_zero, List.set_cons_succ]
            refine late.ready (rs := [23]) (by kernel_rfl) (by simp) ?_
            refine late.Each.cons rfl (fun K hK => ?_) late.Each.nil
            try simp only [List.getElem_toArray, List.getElem_cons_zero, List.getElem_cons_succ]
            go_simp
            obtain ⟨WZ, hWZ⟩ : ∃ x, x = W5.setCell ⟨p, 0, none⟩ (.slice a2 L c2) := ⟨_, rfl⟩
            rw [← hWZ]
            have HST : Hid (Only (fun x => x = p) W5 WZ) := Lib.hid (by rw [hWZ]; exact Only.set (fun x => x = p) W5 p 0 _ rfl)
            have HC9 : Hid (WZ.cell? ⟨p, 0, none⟩ = some (.slice a2 L c2)) := Lib.hid (by rw [hWZ]; exact cell_same hc5)
            have HF9 : Hid (WZ.frozen? ⟨p, 0, none⟩ = false) := Lib.hid (by rw [hWZ]; exact frozen_set.trans hf5)
            have hot9 : Hid (Only (fun q => q = p) wr WZ) := Lib.hid ((hot.out.mono (fun _ _ f => f.elim)).trans HST.out)
            have HBF : Hid (∀ y, a2 = some y → wr.heap.size ≤ y.block) := Lib.hid (fun y e => HB.out _ (HBB.out y e))
            have HEND := Lib.hid (HQ.out WZ a2 c2 ⟨by rw [HLL.out]; exact HC9.out, HF9.out, by rw [HLL.out]; exact HRR.out.only HST.out (fun y e h => by have := HBF.out y e; have := HPW.out; have h' : y.block = p := h; omega), fun y e h => by have := HBF.out y e; have := HPW.out; omega, by rw [HLL.out]; exact HLM.out, HMM.out, by rw [HLL.out]; have := HL1.out; omega, HNN.out⟩ HBF.out hot9.out)
            clear hWZ
            refine hK.out _ _ (fun h => by cases h) (fun _ => ?_)
            clear hK K
            try simp only [List.getElem_toArray, List.getElem_cons_zero, List.getElem_cons_succ, Act.put, List.setIfInBounds_toArray, List.set_cons_zero, List.set_cons_succ]
            refine late.done (by kernel_rfl) ?_ _
            refine NoPanic.normal ?_
            go_wp2_with fail
            all_goals
              go_ret
              exact HEND.out

          · try simp only [List.getElem_toArray, List.getElem_cons_zero, List.getElem_cons_succ]
            go_simp
            obtain ⟨W7, hW7⟩ : ∃ x, x = W1.alloc (.cells #[.int .i64 g, .int .i64 at_] 45) := ⟨_, rfl⟩
            obtain ⟨g7, hg7⟩ : ∃ x, x = W1.heap.size := ⟨_, rfl⟩
            rw [← hW7, ← hg7]
            have hal : Only (fun _ => False) W1 W7 := by rw [hW7]; exact (Only.refl _ _).alloc _
            have HX : Hid (ReadsO W7 (some ⟨g7, 0, none⟩) 1 [(⟨at_, g⟩ : Tm)]) := Lib.hid (reads_oneO (by rw [hW7]; exact alloc_newM _ _ _ _ _ _ hg7 rfl) (by rw [hW7]; exact alloc_newM _ _ _ _ _ _ hg7 rfl))
            have HG : Hid (g7 < W7.heap.size) := Lib.hid (World.block_lt_of_cell? W7 _ (show W7.cell? ⟨g7, 0, none⟩ = _ by rw [hW7]; exact alloc_newM _ _ _ _ _ _ hg7 rfl))
            have HD : Hid (∀ q, ((.slice (some ⟨g1, 0, none⟩) 0 0) : Value).ownBlock = some q → q ≠ g7) := Lib.hid (fun q e => by have := HV.out.lt e; omega)
            replace HV := Lib.hid (HV.out.only hal (fun _ _ f => f))
            replace hot : Hid (Only (fun _ => False) wr W7) := Lib.hid (hot.out.trans hal)
            have hc7 := hot.out.cell' hc0 (fun f => f)
            clear hW7 hg7 hal
            try clear hc1
            refine hK.out _ _ (fun _ => hc7.trans hc0.symm) (fun hHeld7 => ?_)
            replace hHeld7 := hHeld7 rfl
            clear hK K
            try simp only [List.getElem_toArray, List.getElem_cons_zero, List.getElem_cons_succ, Act.put, List.setIfInBounds_toArray, List.set_cons_zero, List.set_cons_succ]
            refine late.ready (rs := [8]) (by kernel_rfl) (by simp) ?_
            refine late.Each.cons rfl (fun K hK => ?_) late.Each.nil
            refine step_one (a := { tmps := _, defers := _ }) rfl _ _ rfl (.slice (some ⟨g1, 0, none⟩) 0 0) ([]) rfl HV.out (some ⟨b, off, none⟩) k _ (l.take k) rfl (HT1.out _ hot.out) (by simp only [List.length_nil]; omega) ?_
            rintro v8 W8 hown hgrow hkk
            have hgo := Only.of_grown hgrow
            replace HV : Hid (OwnO W8 v8 (l.take k)) := Lib.hid (by simpa using hown)
            replace HX := Lib.hid (HX.out.only hgo (fun y e h => HD.out _ h (by rw [← Option.some.inj e])))
            replace HD : Hid (∀ q, v8.ownBlock = some q → q ≠ g7) := Lib.hid (fun q hq => by
              rcases hkk q hq with e | e
              · exact HD.out q e
              · have := HG.out; omega)
            replace HG := Lib.hid (Nat.lt_of_lt_of_le HG.out hgo.size)
            have hot2 : Hid (Only (fun _ => False) wr W8) := Lib.hid (hot.out.then hgo (fun q hq e => by have := HB.out q e; omega))
            replace HB : Hid (∀ q, v8.ownBlock = some q → wr.heap.size ≤ q) := Lib.hid (fun q hq => by
              rcases hkk q hq with e | e
              · exact HB.out q e
              · have := hot.out.size; omega)
            replace hot := hot2
            have hc8 := hot.out.cell' hc0 (fun f => f)
            clear hown hgrow hkk hgo hot2
            try clear hc7
            refine hK.out _ _ (fun _ => hc8.trans hc0.symm) (fun hHeld8 => ?_)
            replace hHeld8 := hHeld8 rfl
            clear hK K
            try simp only [List.getElem_toArray, List.getElem_cons_zero, List.getElem_cons_succ, Act.put, List.setIfInBounds_toArray, List.set_cons_zero, List.set_cons_succ]
            refine late.ready (rs := [13]) (by kernel_rfl) (by simp) ?_
            refine late.Each.cons rfl (fun K hK => ?_) late.Each.nil
            refine step_one (a := { tmps := _, defers := _ }) rfl _ _ rfl v8 (l.take k) rfl HV.out (some ⟨g7, 0, none⟩) 1 1 ([(⟨at_, g⟩ : Tm)]) rfl (HX.out) (by rw [List.length_take]; omega) ?_
            rintro v9 W9 hown hgrow hkk
            have hgo := Only.of_grown hgrow
            replace HV : Hid (OwnO W9 v9 (l.take k ++ [(⟨at_, g⟩ : Tm)])) := Lib.hid (by simpa using hown)
            have hot2 : Hid (Only (fun _ => False) wr W9) := Lib.hid (hot.out.then hgo (fun q hq e => by have := HB.out q e; omega))
            replace HB : Hid (∀ q, v9.ownBlock = some q → wr.heap.size ≤ q) := Lib.hid (fun q hq => by
              rcases hkk q hq with e | e
              · exact HB.out q e
              · have := hot.out.size; omega)
            replace hot := hot2
            have hc9 := hot.out.cell' hc0 (fun f => f)
            clear hown hgrow hkk hgo hot2
            try clear hc8
            clear HX HG HD
            refine hK.out _ _ (fun _ => hc9.trans hc0.symm) (fun hHeld9 => ?_)
            replace hHeld9 := hHeld9 rfl
            clear hK K
            try simp only [List.getElem_toArray, List.getElem_cons_zero, List.getElem_cons_succ, Act.put, List.setIfInBounds_toArray, List.set_cons_zero, List.set_cons_succ]
            refine late.ready (rs := [20]) (by kernel_rfl) (by simp) ?_
            refine late.Each.cons rfl (fun K hK => ?_) late.Each.nil
            refine step_one (a := { tmps := _, defers := _ }) rfl _ _ rfl v9 (l.take k ++ [(⟨at_, g⟩ : Tm)]) rfl HV.out _ (n - k) _ (l.drop k) rfl (HT2.out _ hot.out) (by have := HN.out; rw [List.length_append, List.length_take]; simp only [List.length_cons, List.length_nil]; omega) ?_
            rintro v10 W10 hown hgrow hkk
            have hgo := Only.of_grown hgrow
            replace HV : Hid (OwnO W10 v10 (insM ⟨at_, g⟩ l)) := Lib.hid (by rw [← HINS.out]; simpa using hown)
            have hot2 : Hid (Only (fun _ => False) wr W10) := Lib.hid (hot.out.then hgo (fun q hq e => by have := HB.out q e; omega))
            replace HB : Hid (∀ q, v10.ownBlock = some q → wr.heap.size ≤ q) := Lib.hid (fun q hq => by
              rcases hkk q hq with e | e
              · exact HB.out q e
              · have := hot.out.size; omega)
            replace hot := hot2
            have hc10 := hot.out.cell' hc0 (fun f => f)
            clear hown hgrow hkk hgo hot2
            try clear hc9
            have hf10 : W10.frozen? ⟨p, 0, none⟩ = false := by rw [hot.out.frozen (World.block_lt_of_cell? wr _ hc0) (fun f => f)]; exact hf0
            obtain ⟨a2, c2, rfl, hr2, hl2, hm2, hn2, hb2⟩ := HV.out.form (by rw [insM_len]; omega)
            generalize hL : (insM ⟨at_, g⟩ l).length = L at *
            have HLL := Lib.hid hL
            have HL1 : Hid (L ≤ 901) := Lib.hid (by rw [← hL, insM_len]; omega)
            clear hL
            have HRR := Lib.hid hr2
            have HLM := Lib.hid hl2
            have HMM := Lib.hid hm2
            have HNN := Lib.hid hn2
            have HBB := Lib.hid hb2
            clear HV hr2 hl2 hm2 hn2 hb2
            refine hK.out _ _ (fun _ => hc10.trans hc0.symm) (fun hHeld10 => ?_)
            replace hHeld10 := hHeld10 rfl
            clear hK K
            try simp only [List.getElem_toArray, List.getElem_cons_zero, List.getElem_cons_succ, Act.put, List.setIfInBounds_toArray, List.set_cons_zero, List.set_cons_succ]
            refine late.take (i := 21) [22, 23] (v := ?_) rfl (by kernel_rfl) (by kernel_rfl) (by kernel_rfl) (by kernel_rfl) (fun _ _ _ h => h) (Or.inl ⟨by rfl, ?_⟩) (by assumption) ?_
            rotate_left 1
            · intro w' hSw
              try dsimp only at hSw
              go_simp
              try with_reducible rfl
            try simp only [List.getElem_toArray, List.getElem_cons_zero, List.getElem_cons_succ, Act.put, List.setIfInBounds_toArray, List.set_cons_zero, List.set_cons_succ]
            refine late.take (i := 22) [23] (v := ?_) rfl (by kernel_rfl) (by kernel_rfl) (by kernel_rfl) (by kernel_rfl) (fun _ _ _ h => h) (Or.inl ⟨by rfl, ?_⟩) (by assumption) ?_
            rotate_left 1
            · intro w' hSw
              try dsimp only at hSw
              go_simp
              try with_reducible rfl
            try simp only [List.getElem_toArray, List.getElem_cons_zero, List.getElem_cons_succ, Act.put, List.setIfInBounds_toArray, List.set_cons_zero, List.set_cons_succ]
            refine late.ready (rs := [23]) (by kernel_rfl) (by simp) ?_
            refine late.Each.cons rfl (fun K hK => ?_) late.Each.nil
            try simp only [List.getElem_toArray, List.getElem_cons_zero, List.getElem_cons_succ]
            go_simp
            obtain ⟨WZ, hWZ⟩ : ∃ x, x = W10.setCell ⟨p, 0, none⟩ (.slice a2 L c2) := ⟨_, rfl⟩
            rw [← hWZ]
            have HST : Hid (Only (fun x => x = p) W10 WZ) := Lib.hid (by rw [hWZ]; exact Only.set (fun x => x = p) W10 p 0 _ rfl)
            have HC9 : Hid (WZ.cell? ⟨p, 0, none⟩ = some (.slice a2 L c2)) := Lib.hid (by rw [hWZ]; exact cell_same hc10)
            have HF9 : Hid (WZ.frozen? ⟨p, 0, none⟩ = false) := Lib.hid (by rw [hWZ]; exact frozen_set.trans hf10)
            have hot9 : Hid (Only (fun q => q = p) wr WZ) := Lib.hid ((hot.out.mono (fun _ _ f => f.elim)).trans HST.out)
            have HBF : Hid (∀ y, a2 = some y → wr.heap.size ≤ y.block) := Lib.hid (fun y e => HB.out _ (HBB.out y e))
            have HEND := Lib.hid (HQ.out WZ a2 c2 ⟨by rw [HLL.out]; exact HC9.out, HF9.out, by rw [HLL.out]; exact HRR.out.only HST.out (fun y e h => by have := HBF.out y e; have := HPW.out; have h' : y.block = p := h; omega), fun y e h => by have := HBF.out y e; have := HPW.out; omega, by rw [HLL.out]; exact HLM.out, HMM.out, by rw [HLL.out]; have := HL1.out; omega, HNN.out⟩ HBF.out hot9.out)
            clear hWZ
            refine hK.out _ _ (fun h => by cases h) (fun _ => ?_)
            clear hK K
            try simp only [List.getElem_toArray, List.getElem_cons_zero, List.getElem_cons_succ, Act.put, List.setIfInBounds_toArray, List.set_cons_zero, List.set_cons_succ]
            refine late.done (by kernel_rfl) ?_ _
            refine NoPanic.normal ?_
            go_wp2_with fail
            all_goals
              go_ret
              exact HEND.out

        · try simp only [List.getElem_toArray, List.getElem_cons_zero, List.getElem_cons_succ]
          go_simp
          obtain ⟨W12, hW12⟩ : ∃ x, x = u0.alloc (.cells #[.int .i64 g, .int .i64 at_] 45) := ⟨_, rfl⟩
          obtain ⟨g12, hg12⟩ : ∃ x, x = u0.heap.size := ⟨_, rfl⟩
          rw [← hW12, ← hg12]
          have hal : Only (fun _ => False) u0 W12 := by rw [hW12]; exact (Only.refl _ _).alloc _
          have HX : Hid (ReadsO W12 (some ⟨g12, 0, none⟩) 1 [(⟨at_, g⟩ : Tm)]) := Lib.hid (reads_oneO (by rw [hW12]; exact alloc_newM _ _ _ _ _ _ hg12 rfl) (by rw [hW12]; exact alloc_newM _ _ _ _ _ _ hg12 rfl))
          have HG : Hid (g12 < W12.heap.size) := Lib.hid (World.block_lt_of_cell? W12 _ (show W12.cell? ⟨g12, 0, none⟩ = _ by rw [hW12]; exact alloc_newM _ _ _ _ _ _ hg12 rfl))
          replace hot : Hid (Only (fun _ => False) wr W12) := Lib.hid (hot.out.trans hal)
          have hc12 := hot.out.cell' hc0 (fun f => f)
          clear hW12 hg12 hal
          try clear hcu
          refine hK.out _ _ (fun _ => hc12.trans hc0.symm) (fun hHeld12 => ?_)
          replace hHeld12 := hHeld12 rfl
          clear hK K
          try simp only [List.getElem_toArray, List.getElem_cons_zero, List.getElem_cons_succ, Act.put, List.setIfInBounds_toArray, List.set_cons_zero, List.set_cons_succ]
          refine late.ready (rs := [1]) (by kernel_rfl) (by simp) ?_
          refine late.Each.cons rfl (fun K hK => ?_) late.Each.nil
          try simp only [List.getElem_toArray, List.getElem_cons_zero, List.getElem_cons_succ]
          go_simp
          obtain ⟨W13, hW13⟩ : ∃ x, x = W12.alloc (.cells #[] 45) := ⟨_, rfl⟩
          obtain ⟨g13, hg13⟩ : ∃ x, x = W12.heap.size := ⟨_, rfl⟩
          rw [← hW13, ← hg13]
          have hal : Only (fun _ => False) W12 W13 := by rw [hW13]; exact (Only.refl _ _).alloc _
          have HV : Hid (OwnO W13 (.slice (some ⟨g13, 0, none⟩) 0 0) []) := Lib.hid (by rw [hW13, hg13]; exact World.ownsRow_lit W12 #[] 0 (Nat.zero_le _) (by decide) rfl)
          have HB : Hid (∀ q, (Value.slice (some ⟨g13, 0, none⟩) 0 0).ownBlock = some q → wr.heap.size ≤ q) := Lib.hid (fun q e => by
            have e' : g13 = q := by simpa [Value.ownBlock] using e
            have := hot.out.size; omega)
          have HD : Hid (∀ q, (Value.slice (some ⟨g13, 0, none⟩) 0 0).ownBlock = some q → q ≠ g12) := Lib.hid (fun q e => by
            have e' : g13 = q := by simpa [Value.ownBlock] using e
            have := HG.out; omega)
          replace HX := Lib.hid (HX.out.only hal (fun _ _ f => f))
          replace HG := Lib.hid (Nat.lt_of_lt_of_le HG.out hal.size)
          replace hot : Hid (Only (fun _ => False) wr W13) := Lib.hid (hot.out.trans hal)
          have hc13 := hot.out.cell' hc0 (fun f => f)
          clear hW13 hg13 hal
          try clear hc12
          refine hK.out _ _ (fun _ => hc13.trans hc0.symm) (fun hHeld13 => ?_)
          replace hHeld13 := hHeld13 rfl
          clear hK K
          try simp only [List.getElem_toArray, List.getElem_cons_zero, List.getElem_cons_succ, Act.put, List.setIfInBounds_toArray, List.set_cons_zero, List.set_cons_succ]
          refine late.ready (rs := [8]) (by kernel_rfl) (by simp) ?_
          refine late.Each.cons rfl (fun K hK => ?_) late.Each.nil
          refine step_one (a := { tmps := _, defers := _ }) rfl _ _ rfl (.slice (some ⟨g13, 0, none⟩) 0 0) ([]) rfl HV.out (some ⟨b, off, none⟩) k _ (l.take k) rfl (HT1.out _ hot.out) (by simp only [List.length_nil]; omega) ?_
          rintro v14 W14 hown hgrow hkk
          have hgo := Only.of_grown hgrow
          replace HV : Hid (OwnO W14 v14 (l.take k)) := Lib.hid (by simpa using hown)
          replace HX := Lib.hid (HX.out.only hgo (fun y e h => HD.out _ h (by rw [← Option.some.inj e])))
          replace HD : Hid (∀ q, v14.ownBlock = some q → q ≠ g12) := Lib.hid (fun q hq => by
            rcases hkk q hq with e | e
            · exact HD.out q e
            · have := HG.out; omega)
          replace HG := Lib.hid (Nat.lt_of_lt_of_le HG.out hgo.size)
          have hot2 : Hid (Only (fun _ => False) wr W14) := Lib.hid (hot.out.then hgo (fun q hq e => by have := HB.out q e; omega))
          replace HB : Hid (∀ q, v14.ownBlock = some q → wr.heap.size ≤ q) := Lib.hid (fun q hq => by
            rcases hkk q hq with e | e
            · exact HB.out q e
            · have := hot.out.size; omega)
          replace hot := hot2
          have hc14 := hot.out.cell' hc0 (fun f => f)
          clear hown hgrow hkk hgo hot2
          try clear hc13
          refine hK.out _ _ (fun _ => hc14.trans hc0.symm) (fun hHeld14 => ?_)
          replace hHeld14 := hHeld14 rfl
          clear hK K
          try simp only [List.getElem_toArray, List.getElem_cons_zero, List.getElem_cons_succ, Act.put, List.setIfInBounds_toArray, List.set_cons_zero, List.set_cons_succ]
          refine late.ready (rs := [13]) (by kernel_rfl) (by simp) ?_
          refine late.Each.cons rfl (fun K hK => ?_) late.Each.nil
          refine step_one (a := { tmps := _, defers := _ }) rfl _ _ rfl v14 (l.take k) rfl HV.out (some ⟨g12, 0, none⟩) 1 1 ([(⟨at_, g⟩ : Tm)]) rfl (HX.out) (by rw [List.length_take]; omega) ?_
          rintro v15 W15 hown hgrow hkk
          have hgo := Only.of_grown hgrow
          replace HV : Hid (OwnO W15 v15 (l.take k ++ [(⟨at_, g⟩ : Tm)])) := Lib.hid (by simpa using hown)
          have hot2 : Hid (Only (fun _ => False) wr W15) := Lib.hid (hot.out.then hgo (fun q hq e => by have := HB.out q e; omega))
          replace HB : Hid (∀ q, v15.ownBlock = some q → wr.heap.size ≤ q) := Lib.hid (fun q hq => by
            rcases hkk q hq with e | e
            · exact HB.out q e
            · have := hot.out.size; omega)
          replace hot := hot2
          have hc15 := hot.out.cell' hc0 (fun f => f)
          clear hown hgrow hkk hgo hot2
          try clear hc14
          clear HX HG HD
          refine hK.out _ _ (fun _ => hc15.trans hc0.symm) (fun hHeld15 => ?_)
          replace hHeld15 := hHeld15 rfl
          clear hK K
          try simp only [List.getElem_toArray, List.getElem_cons_zero, List.getElem_cons_succ, Act.put, List.setIfInBounds_toArray, List.set_cons_zero, List.set_cons_succ]
          refine late.ready (rs := [20]) (by kernel_rfl) (by simp) ?_
          refine late.Each.cons rfl (fun K hK => ?_) late.Each.nil
          refine step_one (a := { tmps := _, defers := _ }) rfl _ _ rfl v15 (l.take k ++ [(⟨at_, g⟩ : Tm)]) rfl HV.out _ (n - k) _ (l.drop k) rfl (HT2.out _ hot.out) (by have := HN.out; rw [List.length_append, List.length_take]; simp only [List.length_cons, List.length_nil]; omega) ?_
          rintro v16 W16 hown hgrow hkk
          have hgo := Only.of_grown hgrow
          replace HV : Hid (OwnO W16 v16 (insM ⟨at_, g⟩ l)) := Lib.hid (by rw [← HINS.out]; simpa using hown)
          have hot2 : Hid (Only (fun _ => False) wr W16) := Lib.hid (hot.out.then hgo (fun q hq e => by have := HB.out q e; omega))
          replace HB : Hid (∀ q, v16.ownBlock = some q → wr.heap.size ≤ q) := Lib.hid (fun q hq => by
            rcases hkk q hq with e | e
            · exact HB.out q e
            · have := hot.out.size; omega)
          replace hot := hot2
          have hc16 := hot.out.cell' hc0 (fun f => f)
          clear hown hgrow hkk hgo hot2
          try clear hc15
          have hf16 : W16.frozen? ⟨p, 0, none⟩ = false := by rw [hot.out.frozen (World.block_lt_of_cell? wr _ hc0) (fun f => f)]; exact hf0
          obtain ⟨a2, c2, rfl, hr2, hl2, hm2, hn2, hb2⟩ := HV.out.form (by rw [insM_len]; omega)
          generalize hL : (insM ⟨at_, g⟩ l).length = L at *
          have HLL := Lib.hid hL
          have HL1 : Hid (L ≤ 901) := Lib.hid (by rw [← hL, insM_len]; omega)
          clear hL
          have HRR := Lib.hid hr2
          have HLM := Lib.hid hl2
          have HMM := Lib.hid hm2
          have HNN := Lib.hid hn2
          have HBB := Lib.hid hb2
          clear HV hr2 hl2 hm2 hn2 hb2
          refine hK.out _ _ (fun _ => hc16.trans hc0.symm) (fun hHeld16 => ?_)
          replace hHeld16 := hHeld16 rfl
          clear hK K
          try simp only [List.getElem_toArray, List.getElem_cons_zero, List.getElem_cons_succ, Act.put, List.setIfInBounds_toArray, List.set_cons_zero, List.set_cons_succ]
          refine late.take (i := 21) [22, 23] (v := ?_) rfl (by kernel_rfl) (by kernel_rfl) (by kernel_rfl) (by kernel_rfl) (fun _ _ _ h => h) (Or.inl ⟨by rfl, ?_⟩) (by assumption) ?_
          rotate_left 1
          · intro w' hSw
            try dsimp only at hSw
            go_simp
            try with_reducible rfl
          try simp only [List.getElem_toArray, List.getElem_cons_zero, List.getElem_cons_succ, Act.put, List.setIfInBounds_toArray, List.set_cons_zero, List.set_cons_succ]
          refine late.take (i := 22) [23] (v := ?_) rfl (by kernel_rfl) (by kernel_rfl) (by kernel_rfl) (by kernel_rfl) (fun _ _ _ h => h) (Or.inl ⟨by rfl, ?_⟩) (by assumption) ?_
          rotate_left 1
          · intro w' hSw
            try dsimp only at hSw
            go_simp
            try with_reducible rfl
          try simp only [List.getElem_toArray, List.getElem_cons_zero, List.getElem_cons_succ, Act.put, List.setIfInBounds_toArray, List.set_cons_zero, List.set_cons_succ]
          refine late.ready (rs := [23]) (by kernel_rfl) (by simp) ?_
          refine late.Each.cons rfl (fun K hK => ?_) late.Each.nil
          try simp only [List.getElem_toArray, List.getElem_cons_zero, List.getElem_cons_succ]
          go_simp
          obtain ⟨WZ, hWZ⟩ : ∃ x, x = W16.setCell ⟨p, 0, none⟩ (.slice a2 L c2) := ⟨_, rfl⟩
          rw [← hWZ]
          have HST : Hid (Only (fun x => x = p) W16 WZ) := Lib.hid (by rw [hWZ]; exact Only.set (fun x => x = p) W16 p 0 _ rfl)
          have HC9 : Hid (WZ.cell? ⟨p, 0, none⟩ = some (.slice a2 L c2)) := Lib.hid (by rw [hWZ]; exact cell_same hc16)
          have HF9 : Hid (WZ.frozen? ⟨p, 0, none⟩ = false) := Lib.hid (by rw [hWZ]; exact frozen_set.trans hf16)
          have hot9 : Hid (Only (fun q => q = p) wr WZ) := Lib.hid ((hot.out.mono (fun _ _ f => f.elim)).trans HST.out)
          have HBF : Hid (∀ y, a2 = some y → wr.heap.size ≤ y.block) := Lib.hid (fun y e => HB.out _ (HBB.out y e))
          have HEND := Lib.hid (HQ.out WZ a2 c2 ⟨by rw [HLL.out]; exact HC9.out, HF9.out, by rw [HLL.out]; exact HRR.out.only HST.out (fun y e h => by have := HBF.out y e; have := HPW.out; have h' : y.block = p := h; omega), fun y e h => by have := HBF.out y e; have := HPW.out; omega, by rw [HLL.out]; exact HLM.out, HMM.out, by rw [HLL.out]; have := HL1.out; omega, HNN.out⟩ HBF.out hot9.out)
          clear hWZ
          refine hK.out _ _ (fun h => by cases h) (fun _ => ?_)
          clear hK K
          try simp only [List.getElem_toArray, List.getElem_cons_zero, List.getElem_cons_succ, Act.put, List.setIfInBounds_toArray, List.set_cons_zero, List.set_cons_succ]
          refine late.done (by kernel_rfl) ?_ _
          refine NoPanic.normal ?_
          go_wp2_with fail
          all_goals
            go_ret
            exact HEND.out
end Go.Proofs.Ytiohdfplgpmcdaa.tmw
