/- CodecWrites's walk. -/
import Derived.Test.YtdeljhkombbncabCodPartW
namespace Go.Proofs.Ytdeljhkombbncab.codw
open Go.RowKit mem codm
set_option linter.unusedVariables false

theorem nil_uint (n : Int) (w : World) : Calls Try.prog 12 #[.pointer none, .int .i64 n] w fun en w' => en = .returned (.tuple #[]) ∧ w = w' := by
  go_enter Try.func12, Try.ntmps12
  go_wp2
  exact bodyPost_ret (v := .tuple #[]) (by simp [results, Try.results12, go_sem]) rfl ⟨rfl, rfl⟩
theorem nil_text (a : Option Addr) (len cap : Nat) (w : World) : Calls Try.prog 13 #[.pointer none, .slice a len cap] w fun en w' => en = .returned (.tuple #[]) ∧ w = w' := by
  go_enter Try.func13, Try.ntmps13
  go_wp2
  exact bodyPost_ret (v := .tuple #[]) (by simp [results, Try.results13, go_sem]) rfl ⟨rfl, rfl⟩
theorem nil_bytes (w : World) : Calls Try.prog 14 #[.pointer none] w fun en w' => en = .returned (.tuple #[.slice none 0 0, .int .i64 1]) ∧ w = w' := by
  go_enter Try.func14, Try.ntmps14
  go_wp2
  go_ret2
  exact ⟨rfl, rfl⟩

/-- the parts that came in -/
def PartAt (w : World) (b o : Nat) (k n : Int) (y : Bool) (a : Option Addr) (len cap : Nat) (l : List Nat) : Prop :=
  w.cell? ⟨b, o, none⟩ = some (.int .i64 k) ∧ w.cell? ⟨b, o + 1, none⟩ = some (.int .i64 n) ∧ w.cell? ⟨b, o + 2, none⟩ = some (.bool y) ∧ w.cell? ⟨b, o + 3, none⟩ = some (.slice a len cap) ∧
  (-9223372036854775808 ≤ n ∧ n ≤ 9223372036854775807) ∧ Bytes w a len cap l

theorem PartAt.only {w w' : World} {b o : Nat} {k n : Int} {y : Bool} {a : Option Addr} {len cap : Nat} {l : List Nat} (h : PartAt w b o k n y a len cap l) (ho : Only (fun _ => False) w w') : PartAt w' b o k n y a len cap l :=
  ⟨ho.cell' h.1 (fun f => f), ho.cell' h.2.1 (fun f => f), ho.cell' h.2.2.1 (fun f => f), ho.cell' h.2.2.2.1 (fun f => f), h.2.2.2.2.1, h.2.2.2.2.2.only ho (fun _ _ f => f)⟩

theorem pb_length (k n : Int) (y : Bool) (l : List Nat) : (pb k n y l).length ≤ 320 := by
  unfold pb rucount
  have h1 := (enc_length n.toNat).1
  have h2 := (enc_length (zig n)).1
  have h3 := (enc_length (l.take 300).length).1
  split
  · split
    · simp
    · omega
  · split
    · omega
    · split
      · simp
      · rw [List.length_append]; have : (l.take 300).length ≤ 300 := by simp; omega
        omega

set_option maxRecDepth 100000 in
set_option maxHeartbeats 4000000 in
theorem writes_walk (ao : Option Addr) (len cap : Nat) (w : World) (hlc : len ≤ 9223372036854775807)
    (h : len = 0 ∨ ∃ b off, ao = some ⟨b, off, none⟩ ∧ ∀ i, i < len → ∃ k n y a' len' cap' l', PartAt w b (off + i * 4) k n y a' len' cap' l') :
    Calls Try.prog 6 #[.slice ao len cap] w fun en w' => en = .returned (.bool true) ∧ Below w.heap.size w w' := by
  have H := Lib.hid h
  clear h
  go_enter Try.func6, Try.ntmps6
  go_wp2_with fail
  refine (nil_uint 1 _).mono ?_
  rintro e1 w1 ⟨rfl, rfl⟩
  go_wp2_with fail
  refine (nil_text _ _ _ _).mono ?_
  rintro e1 w1 ⟨rfl, rfl⟩
  go_wp2_with fail
  refine (nil_bytes _).mono ?_
  rintro e1 w1 ⟨rfl, rfl⟩
  go_wp2_with fail
  go_loopw [7, 8, 9] (fun s bd i wr => ∃ (j : Nat) (lw : List Nat) (v : Value) (e : Nat), i = .int .i64 (j : Int) ∧ j ≤ len ∧ j ≤ 20 ∧ s = .string (strN lw) ∧ bd = .bool ((e : Int) != 0) ∧ Hid (e = 0 ∨ e = 1) ∧ Hid (WR wr w.heap.size v lw e) ∧ Hid (Only (fun _ => False) w wr) ∧ Hid (∀ k, v.ownBlock = some k → w.heap.size ≤ k) ∧ lw.length ≤ j * 320) (fun _ _ i _ => 20 - (intOf i).toNat)
  case atStart => exact ⟨0, [], .slice none 0 0, 0, rfl, by omega, by omega, rfl, rfl, Lib.hid (.inl rfl), Lib.hid (new_writer w _), Lib.hid ((Only.refl _ w).alloc _), Lib.hid (fun k hk => by cases hk), by simp⟩
  case round =>
    obtain ⟨j, lw, v, e, rfl, hj, hj20, rfl, rfl, HE, HW, HO, HV, hll⟩ := hrel
    by_cases hend : j < len ∧ j < 20
    · obtain ⟨hj1, hj2⟩ := hend
      obtain ⟨b, off, rfl, hparts⟩ := H.out.resolve_left (by omega)
      obtain ⟨k, n, y, a', len', cap', l', hp⟩ := hparts j hj1
      have hp1 := hp.only HO.out
      have HP := Lib.hid hp1
      obtain ⟨d0, d1, d2, d3, hn, hB⟩ := hp1
      have HN := Lib.hid hn
      have HB := Lib.hid hB
      clear hp hn hB
      have hpl := pb_length k n y l'
      have HLL : Hid ((lw ++ pb k n y l').length ≤ (j + 1) * 320) := Lib.hid (by rw [List.length_append]; omega)
      obtain ⟨S, HS⟩ : ∃ S, Hid (strN lw = S) := ⟨_, Lib.hid rfl⟩
      obtain ⟨T, HT⟩ : ∃ T, Hid (strN (pb k n y l') = T) := ⟨_, Lib.hid rfl⟩
      have HST : Hid (S ++ T = strN (lw ++ pb k n y l')) := Lib.hid (by rw [← HS.out, ← HT.out, strN_append])
      have hss : S.size ≤ 6400 := by rw [← HS.out, strN_size]; omega
      have hts : T.size ≤ 320 := by rw [← HT.out, strN_size]; exact hpl
      rw [HS.out]
      have he01 := HE.out
      have HEE := Lib.hid he01
      go_wp2_with fail
      refine (write_any w.heap.size v lw e k n y a' len' cap' l' _ HW.out HB.out HN.out (by omega)).mono ?_
      rintro e1 w2 ⟨rfl, v2, hW2, hO2, hK2⟩
      rw [HT.out]
      have hO2' : Only (fun _ => False) w w2 := HO.out.then hO2 (fun i hi h => by
        rcases h with h | h
        · omega
        · have := HV.out _ h; omega)
      have HV2 : Hid (∀ k, v2.ownBlock = some k → w.heap.size ≤ k) := Lib.hid (fun k hk => by
        rcases hK2 k hk with h | h
        · exact HV.out k h
        · have := HO.out.size; omega)
      obtain ⟨k', n', y', a'', len'', cap'', l'', hp2⟩ := hparts j hj1
      have hp3 := hp2.only HO.out
      obtain ⟨rfl, rfl, rfl, rfl, rfl, rfl⟩ : k = k' ∧ n = n' ∧ y = y' ∧ a' = a'' ∧ len' = len'' ∧ cap' = cap'' := by
        have h0 := d0.symm.trans hp3.1
        have h1 := d1.symm.trans hp3.2.1
        have h2 := d2.symm.trans hp3.2.2.1
        have h3 := d3.symm.trans hp3.2.2.2.1
        simp at h0 h1 h2 h3
        exact ⟨h0, h1, h2, h3.1, h3.2.1, h3.2.2⟩
      have hq := hp2.only hO2'
      obtain ⟨q0, q1, q2, q3, _, _⟩ := hq
      have HO2 := Lib.hid hO2'
      have HW2 := Lib.hid hW2
      clear hp2 hp3 d0 d1 d2 d3 hW2 hO2 hO2' hK2 HW HO HB HP HE hparts hpl
      rcases he01 with rfl | rfl
      · by_cases hk : k % 4 = 0
        · by_cases hn0 : n < 0
          · have HPE : Hid (perr k n 0 = 1) := Lib.hid (by unfold perr; rw [if_pos ⟨hk, hn0⟩])
            have HK := Lib.hid hk
            clear hk
            go_wp2_with fail
            refine (kind_any k n y a' len' cap' _).mono ?_
            rintro e1 w3 ⟨rfl, hO3⟩
            rw [HK.out]
            have q13 := hO3.cell' q1 (fun f => f)
            have HO3 := Lib.hid (HO2.out.trans hO3)
            replace HW2 := Lib.hid (HW2.out.only hO3 (fun f => f) (fun _ _ f => f))
            clear hO3 q0 q1 q2 q3
            go_wp2_with fail
            go_roundw
            case rel => exact ⟨j + 1, lw ++ pb k n y l', v2, 1, by go_num, by omega, by omega, by rw [HST.out], rfl, Lib.hid (.inr rfl), Lib.hid (by have := HW2.out; rw [HPE.out] at this; exact this), HO3, HV2, HLL.out⟩
            case measure => simp [intOf]; omega
          · have HPE : Hid (perr k n 0 = 0) := Lib.hid (by unfold perr; rw [if_neg (fun f => hn0 f.2)])
            have HK := Lib.hid hk
            clear hk
            go_wp2_with fail
            refine (kind_any k n y a' len' cap' _).mono ?_
            rintro e1 w3 ⟨rfl, hO3⟩
            rw [HK.out]
            have q13 := hO3.cell' q1 (fun f => f)
            have HO3 := Lib.hid (HO2.out.trans hO3)
            replace HW2 := Lib.hid (HW2.out.only hO3 (fun f => f) (fun _ _ f => f))
            clear hO3 q0 q1 q2 q3
            go_wp2_with fail
            go_roundw
            case rel => exact ⟨j + 1, lw ++ pb k n y l', v2, 0, by go_num, by omega, by omega, by rw [HST.out], (by first | rfl | (simp; omega)), Lib.hid (.inl rfl), Lib.hid (by have := HW2.out; rw [HPE.out] at this; exact this), HO3, HV2, HLL.out⟩
            case measure => simp [intOf]; omega
        · have HPE : Hid (perr k n 0 = 0) := Lib.hid (by unfold perr; rw [if_neg (fun f => hk f.1)])
          have hkb : (k % 4 == 0) = false := by rw [beq_eq_false_iff_ne]; exact hk
          clear hk
          go_wp2_with fail
          refine (kind_any k n y a' len' cap' _).mono ?_
          rintro e1 w3 ⟨rfl, hO3⟩
          have HO3 := Lib.hid (HO2.out.trans hO3)
          replace HW2 := Lib.hid (HW2.out.only hO3 (fun f => f) (fun _ _ f => f))
          clear hO3 q0 q1 q2 q3
          go_wp2_with fail
          go_roundw
          case rel => exact ⟨j + 1, lw ++ pb k n y l', v2, 0, by go_num, by omega, by omega, by rw [HST.out], (by first | rfl | (simp; omega)), Lib.hid (.inl rfl), Lib.hid (by have := HW2.out; rw [HPE.out] at this; exact this), HO3, HV2, HLL.out⟩
          case measure => simp [intOf]; omega
      · have HPE : Hid (perr k n 1 = 1) := Lib.hid (by unfold perr; split <;> rfl)
        clear q0 q1 q2 q3
        go_wp2_with fail
        go_roundw
        case rel => exact ⟨j + 1, lw ++ pb k n y l', v2, 1, by go_num, by omega, by omega, by rw [HST.out], rfl, Lib.hid (.inr rfl), Lib.hid (by have := HW2.out; rw [HPE.out] at this; exact this), HO2, HV2, HLL.out⟩
        case measure => simp [intOf]; omega
    · by_cases hjl : j < len
      all_goals
       rcases HE.out with rfl | rfl
       all_goals
        clear HE
        go_wp2_with fail
        refine (wbytes_any w.heap.size v _ _ _ HW.out (by omega)).mono ?_
        rintro e1 w2 ⟨v2, rfl, hv2, hO2, _⟩
        have V2 := Lib.hid hv2
        have O2 := Lib.hid (HO.out.trans hO2)
        clear hv2 hO2
        go_wp2_with fail
        refine (codes_any _).mono ?_
        rintro e1 w3 ⟨rfl, hb3⟩
        have hO3 := Only.of_below hb3
        obtain ⟨a3, n3, c3, hv3, hB3⟩ := bytes_of_own (V2.out.only hO3 (fun _ _ f => f))
        have hcv := conv_reads hB3.1 c3
        obtain ⟨S, HS⟩ : ∃ S, Hid (strN lw = S) := ⟨_, Lib.hid rfl⟩
        rw [HS.out] at hcv ⊢
        rw [hv3]
        have O3 := Lib.hid (O2.out.trans hO3)
        clear hb3 hO3 hv3 hB3
        go_wp2_with fail
        go_ret
        exact ⟨rfl, O3.out.none⟩
end Go.Proofs.Ytdeljhkombbncab.codw
