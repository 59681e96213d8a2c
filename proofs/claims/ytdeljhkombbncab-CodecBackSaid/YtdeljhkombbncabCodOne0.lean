/- CodecOne's walk. -/
import Derived.Test.YtdeljhkombbncabCodKnown
namespace Go.Proofs.Ytdeljhkombbncab.codw
open Go.RowKit mem codm
set_option linter.unusedVariables false

theorem rint_whole {l : List Nat} (hl : ∀ c ∈ l, c < 256) (h : rend (rint l 0).2.1 (rint l 0).2.2 = 0) : enc (zig (rint l 0).1) = l := by
  unfold rint at h ⊢
  rw [if_pos rfl] at h ⊢
  by_cases h0 : (dec 10 l 0 0).2.2 = 0
  · rw [if_pos h0] at h ⊢
    obtain ⟨n, s, er, hd⟩ : ∃ n s er, dec 10 l 0 0 = (n, s, er) := ⟨_, _, _, rfl⟩
    rw [hd] at h h0 ⊢
    have : er = 0 := h0
    subst this
    obtain ⟨henc, hsl, _⟩ := enc_dec (by omega : (10 : Nat) ≤ 10) hl hd
    unfold rend at h
    simp at h
    show enc (zig (zag n)) = l
    rw [zig_zag, henc, List.take_of_length_le h]
  · rw [if_neg h0] at h
    unfold rend at h
    simp [h0] at h

theorem rint_in (l : List Nat) (hl : ∀ c ∈ l, c < 256) : -9223372036854775808 ≤ (rint l 0).1 ∧ (rint l 0).1 ≤ 9223372036854775807 := by
  unfold rint
  rw [if_pos rfl]
  by_cases h0 : (dec 10 l 0 0).2.2 = 0
  · rw [if_pos h0]
    obtain ⟨n, s, er, hd⟩ : ∃ n s er, dec 10 l 0 0 = (n, s, er) := ⟨_, _, _, rfl⟩
    rw [hd] at h0 ⊢
    have : er = 0 := h0
    subst this
    exact zag_in (enc_dec (by omega : (10 : Nat) ≤ 10) hl hd).2.2.1
  · rw [if_neg h0]; simp

theorem runt_whole {l : List Nat} {most : Int} (hl : ∀ c ∈ l, c < 256) (h : rend (runt l most 0).2.1 (runt l most 0).2.2 = 0) : enc (runt l most 0).1 = l := by
  unfold runt at h ⊢
  rw [if_pos rfl] at h ⊢
  by_cases h0 : (dcount l most).2.2 = 0
  · rw [if_pos h0] at h ⊢
    obtain ⟨n, s, er, hd⟩ : ∃ n s er, dcount l most = (n, s, er) := ⟨_, _, _, rfl⟩
    rw [hd] at h h0 ⊢
    have : er = 0 := h0
    subst this
    obtain ⟨_, _, _, hsl, _, _, henc⟩ := dcount_ok hl hd
    unfold rend at h
    simp at h
    show enc n = l
    rw [henc, List.take_of_length_le h]
  · rw [if_neg h0] at h
    unfold rend at h
    simp [h0] at h

theorem runt_in (l : List Nat) (most : Int) (hl : ∀ c ∈ l, c < 256) : (runt l most 0).1 < 9223372036854775808 := by
  unfold runt
  rw [if_pos rfl]
  by_cases h0 : (dcount l most).2.2 = 0
  · rw [if_pos h0]
    obtain ⟨n, s, er, hd⟩ : ∃ n s er, dcount l most = (n, s, er) := ⟨_, _, _, rfl⟩
    rw [hd] at h0 ⊢
    have : er = 0 := h0
    subst this
    exact (dcount_ok hl hd).2.2.2.2.1
  · rw [if_neg h0]; simp

theorem Later.lt {a a' : Option Addr} (h : Later a a') {B : Nat} (hB : ∀ x, a = some x → x.block < B) : ∀ x, a' = some x → x.block < B := by
  intro x hx
  obtain ⟨y, hy, e⟩ := h x hx
  rw [← e]; exact hB y hy
theorem Later.ge {a a' : Option Addr} (h : Later a a') {B : Nat} (hB : ∀ x, a = some x → B ≤ x.block) : ∀ x, a' = some x → B ≤ x.block := by
  intro x hx
  obtain ⟨y, hy, e⟩ := h x hx
  rw [← e]; exact hB y hy

set_option maxRecDepth 100000 in
set_option maxHeartbeats 4000000 in
theorem one_walk (a : Option Addr) (len cap : Nat) (l : List Nat) (w : World) (h : Bytes w a len cap l) :
    Calls Try.prog 8 #[.slice a len cap] w fun en w' => en = .returned (.bool true) ∧ Below w.heap.size w w' := by
  obtain ⟨hr, hlc, hcm, hn⟩ := h
  have hcm' := hcm
  unfold maxLen at hcm
  rcases Nat.lt_or_ge 12 len with hlen | hlen
  all_goals
    obtain ⟨l', HB⟩ : ∃ l', Hid (Bytes w a (min len 12) cap l') := by
      rcases Nat.lt_or_ge 12 len with h | h
      · exact ⟨_, Lib.hid (by rw [Nat.min_eq_right (by omega)]; exact ⟨hr.take 12 (by omega), by omega, hcm', hn⟩)⟩
      · exact ⟨_, Lib.hid (by rw [Nat.min_eq_left (by omega)]; exact ⟨hr, hlc, hcm', hn⟩)⟩
    clear hr hn hcm'
    first | rw [Nat.min_eq_right (by omega : 12 ≤ len)] at HB | rw [Nat.min_eq_left (by omega : len ≤ 12)] at HB
    have HLB := Lib.hid HB.out.1.2.2.1
    have HLL := Lib.hid HB.out.1.1
    go_enter Try.func8, Try.ntmps8
    go_wp2_with fail
    refine (read_any _ _ _ l' _ HB.out (by omega)).mono ?_
    rintro e1 w1 ⟨p1, a1, n1, c1, rfl, hR1, hO1, hp1, ha1⟩
    have H1 := Lib.hid hR1
    have h1lt := World.block_lt_of_cell? w1 _ hR1.c0
    clear hR1
    go_wp2_with fail
    refine (read_any _ _ _ l' _ (HB.out.only hO1 (fun _ _ f => f)) (by omega)).mono ?_
    rintro e1 w2 ⟨p2, a2, n2, c2, rfl, hR2, hO2, hp2, ha2⟩
    have H12 := Lib.hid (H1.out.only hO2 (fun f => f) (fun _ _ f => f))
    have H2 := Lib.hid hR2
    have h2lt := World.block_lt_of_cell? w2 _ hR2.c0
    have O2 : Only (fun _ => False) w w2 := hO1.trans hO2
    have hne : p2 ≠ p1 := fun e => by have : p1 < w1.heap.size := h1lt; omega
    have HP2 : Hid (w1.heap.size ≤ p2) := Lib.hid hp2
    have HP1 : Hid (w.heap.size ≤ p1 ∧ p1 < w1.heap.size) := Lib.hid ⟨hp1, h1lt⟩
    have HA1 := Lib.hid ha1
    have HA2 := Lib.hid ha2
    have HNE := Lib.hid hne
    have HS12 := Lib.hid hO2.size
    clear hR2 hO1 hO2 H1 hne hp1 hp2 ha1 ha2 h1lt
    go_wp2_with fail
    refine (int_any p1 a1 n1 c1 l' 0 _ H12.out).mono ?_
    rintro e1 w3 ⟨rfl, a3, n3, c3, hR3, hO3, hL3⟩
    have H3 := Lib.hid hR3
    have H23 := Lib.hid (H2.out.only hO3 (fun e => HNE.out e) (fun x hx e => by have h1 := (HA2.out x hx).1; have h2 := HP1.out.2; omega))
    have O3 : Only (fun _ => False) w w3 := O2.then hO3 (fun i hi e => by have := HP1.out.1; omega)
    have HL3 := Lib.hid hL3
    have hin := rint_in l' HLB.out
    obtain ⟨n, hn⟩ : ∃ n, (rint l' 0).1 = n := ⟨_, rfl⟩
    obtain ⟨E1, hE1⟩ : ∃ E1, rend (rint l' 0).2.1 (rint l' 0).2.2 = E1 := ⟨_, rfl⟩
    have hw1 : E1 = 0 → enc (zig n) = l' := fun h0 => by rw [← hn]; exact rint_whole HLB.out (by rw [hE1]; exact h0)
    rw [hn] at hin ⊢
    have HE1 := Lib.hid hE1
    have HW1 := Lib.hid hw1
    have HS23 := Lib.hid hO3.size
    clear hR3 hO3 hL3 H12 H2 hn hE1 hw1 O2 h2lt
    go_wp2_with fail
    refine (uint_any p2 a2 n2 c2 l' 0 _ _ H23.out).mono ?_
    rintro e1 w4 ⟨rfl, a4, n4, c4, hR4, hO4, hL4⟩
    have H4 := Lib.hid hR4
    have hp2lt : p2 < w3.heap.size := World.block_lt_of_cell? w3 _ H23.out.c0
    have H34 := Lib.hid (H3.out.only hO4 (fun e => HNE.out e.symm) (fun x hx e => by
      obtain ⟨y, hy, hyb⟩ := HL3.out x hx
      have h1 := (HA1.out y hy).2
      have h2 := HP2.out
      omega))
    have O4 : Only (fun _ => False) w w4 := O3.then hO4 (fun i hi e => by have h1 := HP1.out; have h2 := HP2.out; omega)
    obtain ⟨m, hm⟩ : ∃ m, (runt l' 9223372036854775807 0).1 = m := ⟨_, rfl⟩
    have hmin := runt_in l' 9223372036854775807 HLB.out
    obtain ⟨E2, hE2⟩ : ∃ E2, rend (runt l' 9223372036854775807 0).2.1 (runt l' 9223372036854775807 0).2.2 = E2 := ⟨_, rfl⟩
    have hw2 : E2 = 0 → enc m = l' := fun h0 => by rw [← hm]; exact runt_whole HLB.out (by rw [hE2]; exact h0)
    rw [hm] at hmin ⊢
    have HE2 := Lib.hid hE2
    have HW2 := Lib.hid hw2
    have HQ1 : Hid (p1 < w4.heap.size) := Lib.hid (World.block_lt_of_cell? w4 _ H34.out.c0)
    have HQ2 : Hid (p2 < w4.heap.size) := Lib.hid (World.block_lt_of_cell? w4 _ H4.out.c0)
    have hs34 := hO4.size
    have HA3 : Hid (∀ x, a3 = some x → x.block < w4.heap.size) := Lib.hid (HL3.out.lt (fun x hx => by have h1 := (HA1.out x hx).2; have h2 := HS12.out; have h3 := HS23.out; omega))
    have HA4 : Hid (∀ x, a4 = some x → x.block < w4.heap.size) := Lib.hid (hL4.lt (fun x hx => by have h1 := (HA2.out x hx).2; have h2 := HS12.out; have h3 := HS23.out; omega))
    have HWS : Hid (w.heap.size ≤ w4.heap.size) := Lib.hid O4.size
    clear hR4 hO4 hL4 H23 H3 hm hE2 hw2 O3 hp2lt hs34 HS12 HS23 HP1 HP2 HA1 HA2 HNE HL3
    have O5 : Only (fun _ => False) w ((w4.alloc (.cells #[.slice none 0 0, .int .i64 0] 40)).alloc (.cells #[.slice none 0 0, .int .i64 0] 40)) := (O4.alloc _).alloc _
    have H35 := Lib.hid (H34.out.only (S := fun _ => False) (((Only.refl _ w4).alloc (.cells #[.slice none 0 0, .int .i64 0] 40)).alloc (.cells #[.slice none 0 0, .int .i64 0] 40)) (fun f => f) (fun _ _ f => f))
    have H45 := Lib.hid (H4.out.only (S := fun _ => False) (((Only.refl _ w4).alloc (.cells #[.slice none 0 0, .int .i64 0] 40)).alloc (.cells #[.slice none 0 0, .int .i64 0] 40)) (fun f => f) (fun _ _ f => f))
    have N1 := Lib.hid ((new_writer w4 40).only (S := fun _ => False) ((Only.refl _ _).alloc (.cells #[.slice none 0 0, .int .i64 0] 40)) (fun f => f) (fun _ _ f => f))
    have N2 := Lib.hid (new_writer (w4.alloc (.cells #[.slice none 0 0, .int .i64 0] 40)) 40)
    rw [size_alloc] at N2
    go_wp2_with fail
    refine (wint_any w4.heap.size _ [] 0 n _ hin N1.out (by simp)).mono ?_
    rintro e1 w6 ⟨rfl, v6, hW6, hO6, hK6⟩
    have hO6' : Only (fun k => k = w4.heap.size) ((w4.alloc (.cells #[.slice none 0 0, .int .i64 0] 40)).alloc (.cells #[.slice none 0 0, .int .i64 0] 40)) w6 :=
      hO6.mono (fun k _ h => h.elim id (fun f => by cases f))
    have K6 : Hid (∀ k, v6.ownBlock = some k → w4.heap.size + 2 ≤ k) := Lib.hid (fun k hk => by
      rcases hK6 k hk with h | h
      · cases h
      · rw [size_alloc, size_alloc] at h; omega)
    have N6 := Lib.hid hW6
    have M6 := Lib.hid (N2.out.only hO6' (fun e => by omega) (fun k hk => by cases hk))
    have H36 := Lib.hid (H35.out.only hO6' (fun e => by have := HQ1.out; omega) (fun x hx e => by have := HA3.out x hx; omega))
    have H46 := Lib.hid (H45.out.only hO6' (fun e => by have := HQ2.out; omega) (fun x hx e => by have := HA4.out x hx; omega))
    have O6 : Only (fun _ => False) w w6 := O5.then hO6' (fun i hi e => by have := HWS.out; omega)
    have hs6 : w4.heap.size + 2 ≤ w6.heap.size := by have := hO6'.size; rw [size_alloc, size_alloc] at this; omega
    have HS6 := Lib.hid hs6
    clear hW6 hO6 hK6 hO6' N1 N2 H35 H45 O5 O4 H34 H4 hs6
    go_wp2_with fail
    refine (wuint_any (w4.heap.size + 1) _ [] 0 (m : Int) _ (by omega) (by omega) M6.out (by simp)).mono ?_
    rintro e1 w7 ⟨rfl, v7, hW7, hO7, hK7⟩
    have hO7' : Only (fun k => k = w4.heap.size + 1) w6 w7 :=
      hO7.mono (fun k _ h => h.elim id (fun f => by cases f))
    have N7 := Lib.hid (N6.out.only hO7' (fun e => by omega) (fun k hk e => by have := K6.out k hk; omega))
    have M7 := Lib.hid hW7
    rw [Int.toNat_natCast] at M7
    have H37 := Lib.hid (H36.out.only hO7' (fun e => by have := HQ1.out; omega) (fun x hx e => by have := HA3.out x hx; omega))
    have H47 := Lib.hid (H46.out.only hO7' (fun e => by have := HQ2.out; omega) (fun x hx e => by have := HA4.out x hx; omega))
    have O7 : Only (fun _ => False) w w7 := O6.then hO7' (fun i hi e => by have := HWS.out; omega)
    clear hW7 hO7 hK7 hO7' N6 M6 H36 H46 O6 K6
    go_wp2_with fail
    refine (wbytes_any w4.heap.size v6 _ 0 _ N7.out (by have := enc_length (zig n); simp; omega)).mono ?_
    rintro e1 w8 ⟨v8, rfl, hv8, hO8, hk8⟩
    have M8 := Lib.hid (M7.out.only hO8 (fun f => f) (fun _ _ f => f))
    have H38 := Lib.hid (H37.out.only hO8 (fun f => f) (fun _ _ f => f))
    have H48 := Lib.hid (H47.out.only hO8 (fun f => f) (fun _ _ f => f))
    have O8 : Only (fun _ => False) w w8 := O7.trans hO8
    have V8 := Lib.hid hv8
    clear hv8 hO8 hk8 N7 M7 H37 H47 O7
    go_wp2_with fail
    refine (wbytes_any (w4.heap.size + 1) v7 _ 0 _ M8.out (by have := enc_length m; simp; omega)).mono ?_
    rintro e1 w9 ⟨v9, rfl, hv9, hO9, hk9⟩
    have H39 := Lib.hid (H38.out.only hO9 (fun f => f) (fun _ _ f => f))
    have H49 := Lib.hid (H48.out.only hO9 (fun f => f) (fun _ _ f => f))
    have O9 : Only (fun _ => False) w w9 := O8.trans hO9
    have V89 := Lib.hid (V8.out.only hO9 (fun _ _ f => f))
    have V9 := Lib.hid hv9
    clear hv9 hO9 hk9 M8 H38 H48 O8 V8
    go_wp2_with fail
    refine (codes_any _).mono ?_
    rintro e1 w10 ⟨rfl, hb10⟩
    have hO10 := Only.of_below hb10
    have H310 := Lib.hid (H39.out.only hO10 (fun f => f) (fun _ _ f => f))
    have H410 := Lib.hid (H49.out.only hO10 (fun f => f) (fun _ _ f => f))
    have O10 : Only (fun _ => False) w w10 := O9.trans hO10
    obtain ⟨ax, nx, cx, hvx, hBx⟩ := bytes_of_own (V89.out.only hO10 (fun _ _ f => f))
    obtain ⟨ay, ny, cy, hvy, hBy⟩ := bytes_of_own (V9.out.only hO10 (fun _ _ f => f))
    have HBX := Lib.hid hBx
    have HBY := Lib.hid hBy
    have HB10 := Lib.hid (HB.out.1.only O10 (fun _ _ f => f))
    rw [hvx, hvy]
    clear hb10 hO10 hvx hvy hBx hBy H39 H49 O9 V89 V9
    have HO10 := Lib.hid O10
    clear O10
    have hcb := conv_reads HB10.out cap
    obtain ⟨S, HS⟩ : ∃ S, Hid (strN l' = S) := ⟨_, Lib.hid rfl⟩
    rw [HS.out] at hcb
    have hx1 : E1 = 0 → (convert 22 9 (.slice ax nx cx)).run Try.prog w10 = .ok (.string S) w10 := fun h => by
      rw [conv_reads HBX.out.1 cx, List.nil_append, HW1.out h, HS.out]
    have hx2 : E2 = 0 → (convert 22 9 (.slice ay ny cy)).run Try.prog w10 = .ok (.string S) w10 := fun h => by
      rw [conv_reads HBY.out.1 cy, List.nil_append, HW2.out h, HS.out]
    rcases Nat.eq_zero_or_pos E1 with h1 | h1
    all_goals
      first
        | (have hb1 : ((E1 : Int) != 0) = false := by rw [bne_eq_false_iff_eq]; omega)
        | (have hb1 : ((E1 : Int) != 0) = true := by rw [bne_iff_ne]; omega)
      first
        | (have hc1 := hx1 h1)
        | skip
      clear hx1 h1
      rcases Nat.eq_zero_or_pos E2 with h2 | h2
      all_goals
        first
          | (have hb2 : ((E2 : Int) != 0) = false := by rw [bne_eq_false_iff_eq]; omega)
          | (have hb2 : ((E2 : Int) != 0) = true := by rw [bne_iff_ne]; omega)
        first
          | (have hc2 := hx2 h2)
          | skip
        clear hx2 h2
        go_wp2_with fail
        refine (end_any p1 _ _ _ _ _ _ H310.out).mono ?_
        rintro e1 w11 ⟨rfl, rfl⟩
        rw [HE1.out]
        go_wp2_with fail
        refine (end_any p2 _ _ _ _ _ _ H410.out).mono ?_
        rintro e1 w11 ⟨rfl, rfl⟩
        rw [HE2.out]
        go_wp2_with fail
        go_ret
        exact ⟨rfl, HO10.out.none⟩
end Go.Proofs.Ytdeljhkombbncab.codw
