/- CreditReads' walk. -/
import Derived.Test.YthflglejhhebeaaCtB
import Derived.Test.YthflglejhhebeaaCsP
import Derived.Test.YthflglejhhebeaaCsR
namespace Go.Proofs.Ythflglejhhebeaa.cs
open Go.RowKit mem rwg codm codp codw
set_option linter.unusedVariables false

/-- both tables, of what was read or written -/
theorem tb_both {w w1 w1' w2 w3 : World} {p q : Nat} {pl last : Int} {v v2 : Value} {L L2 : List Sd} {K : List Sx} (hpt : PT (fun x => w.heap.size ≤ x) w1 p pl last v L) (e1 : L.map Sd.sx = K) (h1 : Only (fun _ => False) w1 w1') (hdt : DT (fun x => w1'.heap.size ≤ x) w2 q pl last v2 L2) (e2 : L2.map Sd.sx = K) (h2 : Only (fun _ => False) w1' w2) (h3 : Only (fun _ => False) w2 w3) (hok : TOk pl last K) : TB w.heap.size pl last p q K w3 := by
  have s1 := h1.size
  have s2 := h2.size
  have s3 := h3.size
  have hp := hpt.lt
  have hp2 := hpt.sp
  refine ⟨fun x => w.heap.size ≤ x ∧ x < w1.heap.size, fun x => w1'.heap.size ≤ x ∧ x < w2.heap.size, v, v2, L, L2, ⟨((hpt.mono (T := fun x => w.heap.size ≤ x ∧ x < w1.heap.size) (fun x hx s => ⟨s, hx⟩)).quiet (h1.trans h2)).quiet h3, (hdt.mono (T := fun x => w1'.heap.size ≤ x ∧ x < w2.heap.size) (fun x hx s => ⟨s, hx⟩)).quiet h3, e1, e2, hok, fun x s => ⟨s.1, by omega, fun t => by omega⟩, fun x s => ⟨by omega, by omega⟩⟩⟩
set_option maxRecDepth 100000 in
set_option maxHeartbeats 8000000 in
theorem creads_any (ao : Option Addr) (n c : Nat) (w : World) (h : ∃ l, Bytes w ao n c l) :
    Calls Try.prog 5 #[.slice ao n c] w fun e w' => e = .returned (.bool true) ∧ Only (fun _ => False) w w' := by
  obtain ⟨l, h⟩ := h
  have hm := h.2.2.1
  have h1 := h.2.1
  unfold maxLen at hm
  have hmin : min (n : Int) 1500 = ((min n 1500 : Nat) : Int) := by omega
  have hk1 : min n 1500 ≤ n := by omega
  have hk2 : min n 1500 ≤ 1500 := by omega
  have hkc : ((min n 1500 : Nat) : Int) ≤ c := by omega
  have HB : Hid (Bytes w ao (min n 1500) c (l.take (min n 1500))) := Lib.hid ⟨h.1.take _ hk1, by omega, h.2.2.1, h.2.2.2⟩
  have HBY : Hid (By (l.take (min n 1500))) := Lib.hid ⟨fun x hx => h.1.2.2.1 x (List.mem_of_mem_take hx), by rw [List.length_take]; omega⟩
  generalize l.take (min n 1500) = b at *
  generalize min n 1500 = k at *
  clear h h1
  have hk0 : (0 : Int) ≤ (k : Int) := by omega
  have HRD := Lib.hid (ctread_any ao k c b w HB.out HBY.out)
  have HRR := Lib.hid (fun w' => rtread_any b w' HBY.out)
  go_enter Try.func5, Try.ntmps5
  go_wp2_with fail
  refine HRD.out.mono ?_
  rintro _ w1 ⟨ho, hres⟩
  have HB1 : Hid (Bytes w1 ao k c b) := Lib.hid (HB.out.only ho (fun _ _ f => f))
  have HO1 := Lib.hid ho
  have hcv : (convert 31 9 (.slice ao k c)).run Try.prog w1 = .ok (.string (dskw.strN b)) w1 := dskw.conv_reads HB1.out.1 c
  clear ho HRD HB
  rcases hres with ⟨pl, last, K, p, v, L, his, rfl, hpt, hK⟩ | ⟨hno, rfl⟩
  · have HIS := Lib.hid his
    have HPT := Lib.hid hpt
    have HK := Lib.hid hK
    have HW : Hid (∀ w', Only (fun _ => False) w1 w' → Calls Try.prog 8 #[.pointer (some ⟨p, 0, none⟩)] w' (Wrote w' b)) := Lib.hid (fun w' ho => by
      have := ctwrite_any p pl last v L w' (hpt.quiet ho) (by rw [hK]; exact his.1)
      rwa [hK, ← his.2] at this)
    clear hpt his hK
    go_wp2_with fail
    refine (HRR.out w1).mono ?_
    rintro _ w2 ⟨ho, ok, q, rfl, hd⟩
    rcases hd with ⟨rfl, pl', last', K', v2, L2, his2, hdt, hK2⟩ | ⟨rfl, hno⟩
    · obtain ⟨rfl, rfl, rfl⟩ := HIS.out.uniq his2
      have HO2 := Lib.hid ho
      have HLK : Hid (∀ w3, Only (fun _ => False) w2 w3 → Calls Try.prog 19 #[.pointer (some ⟨p, 0, none⟩), .pointer (some ⟨q, 0, none⟩)] w3 fun e w' => e = .returned (.bool true) ∧ Only (fun _ => False) w3 w') := Lib.hid (fun w3 h3 => like_any w3 (tb_both HPT.out HK.out (Only.refl _ w1) hdt hK2 HO2.out h3 HIS.out.1))
      clear ho hcv hdt hK2 his2
      go_wp2_with fail
      refine (credits_any w2).mono ?_
      rintro _ w3 ⟨rfl, ho⟩
      have HO23 := Lib.hid ho
      have HO3 : Hid (Only (fun _ => False) w1 w3) := Lib.hid (HO2.out.trans ho)
      have HW3 := Lib.hid (HW.out w3 HO3.out)
      clear ho HW
      go_wp2_with fail
      refine HW3.out.mono ?_
      rintro _ w4 ⟨ra, rc, rfl, hby, hyb, ho⟩
      generalize hnb : b.length = nb at *
      have HO4 : Hid (Only (fun _ => False) w w4) := Lib.hid ((HO1.out.trans HO3.out).trans ho)
      have hcv1 : (convert 31 9 (.slice ra nb rc)).run Try.prog w4 = .ok (.string (dskw.strN b)) w4 := dskw.conv_reads hby.1 rc
      have hcv2 : (convert 31 9 (.slice ao k c)).run Try.prog w4 = .ok (.string (dskw.strN b)) w4 := dskw.conv_reads (HB1.out.1.only (HO3.out.trans ho) (fun _ _ f => f)) c
      have hself : ((dskw.strN b).toList == (dskw.strN b).toList) = true := by simp
      have HL4 := Lib.hid (HLK.out w4 (HO23.out.trans ho))
      clear ho hby hyb HW3 HO1 HO3 hnb HB1 HLK
      go_wp2_with fail
      refine HL4.out.mono ?_
      rintro _ w5 ⟨rfl, ho⟩
      have HO5 := Lib.hid (HO4.out.trans ho)
      clear ho HL4
      go_wp2_with fail
      go_ret
      exact ⟨by simp, HO5.out⟩
    · exact absurd ⟨_, _, _, HIS.out⟩ hno
  · have HNO := Lib.hid hno
    clear hno
    go_wp2_with fail
    refine (HRR.out w1).mono ?_
    rintro _ w2 ⟨ho, ok, q, rfl, hd⟩
    rcases hd with ⟨rfl, pl', last', K', v2, L2, his2, hdt, hK2⟩ | ⟨rfl, hno⟩
    · exact absurd ⟨_, _, _, his2⟩ HNO.out
    · have HO2 := Lib.hid ho
      clear ho hcv hno
      go_wp2_with fail
      refine (credits_any w2).mono ?_
      rintro _ w3 ⟨rfl, ho⟩
      have HO3 : Hid (Only (fun _ => False) w w3) := Lib.hid ((HO1.out.trans HO2.out).trans ho)
      clear ho HO1 HO2
      go_wp2_with fail
      go_ret
      exact ⟨by simp, HO3.out⟩
section
open Go.ChangeShapes Go.WideShapes Go.ChangeAt
variable {H : Type} {enc : TypeId × Value → H} {w : World} {base : Nat}
theorem bytes_open {fuel : Nat} {ao : Option Addr} {len cap : Nat} {x : DataW H × List MemPlace} (h : DataW.trod enc Try.prog w base (fun _ => true) true fuel 31 [.slice ao len cap] = some x) : ∃ l, Bytes w ao len cap l := by
  rcases open_ints Try.underlying31 Try.underlying5 (by kernel_rfl) h with ⟨hcs, _⟩ | ⟨x, l, c', zs, hcs, _, hl, hm, hz, _, hcell, hwz⟩
  · simp at hcs
    obtain ⟨rfl, rfl, rfl⟩ := hcs
    exact bytes_of_row (w := w) (a := none) (len := 0) (cap := 0) (zs := []) (.inl ⟨rfl, rfl, rfl, rfl⟩)
  · simp at hcs
    obtain ⟨rfl, rfl, rfl⟩ := hcs
    exact bytes_of_row (w := w) (a := some x) (len := len) (cap := cap) (zs := zs) (.inr ⟨x, rfl, hl, hm, by simpa using hz, hcell, hwz⟩)
end
theorem creads_walk (ao : Option Addr) (n c : Nat) (w : World) (h : ∃ l, Bytes w ao n c l) :
    Calls Try.prog 5 #[.slice ao n c] w fun e w' => e = .returned (.bool true) ∧ Below w.heap.size w w' :=
  (creads_any ao n c w h).mono fun _ _ ⟨p, q⟩ => ⟨p, q.none⟩
end Go.Proofs.Ythflglejhhebeaa.cs
