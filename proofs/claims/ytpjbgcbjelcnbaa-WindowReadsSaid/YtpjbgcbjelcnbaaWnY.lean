/- WindowReads: the bytes that are a window's are just those that it writes, as mathematics; the walk. -/
import Derived.Test.YtpjbgcbjelcnbaaWnX
namespace Go.Proofs.Ytpjbgcbjelcnbaa.wnd
open Go.RowKit mem rowz dskw codm codp codw
set_option linter.unusedVariables false

theorem uS_app {most : Int} {s : Option (List Nat)} {r : List Nat} (h : SOk s) (hr : (uS most s).2 = some r) : s = some (enc (uS most s).1 ++ r) := by
  obtain ⟨l, e, hp⟩ := uS_some hr
  rw [← (pUint_is (h l e).1 hp).1]; exact e
theorem iS_app {s : Option (List Nat)} {r : List Nat} (h : SOk s) (hr : (iS s).2 = some r) : s = some (enc (zig (iS s).1) ++ r) := by
  obtain ⟨l, e, hp⟩ := iS_some hr
  rw [← (pInt_is (h l e).1 hp).1]; exact e
theorem fS_app {s : Option (List Nat)} {r : List Nat} (hr : (codp.fS s).2 = some r) : s = some (flagB (codp.fS s).1 ++ r) := by
  obtain ⟨l, e, hp⟩ := fS_some hr
  rw [← (pFlag_is hp).1]; exact e
theorem tS_app {most : Int} {s : Option (List Nat)} {r : List Nat} (h : SOk s) (hr : (tS most s).2 = some r) : s = some (textB (tS most s).1 ++ r) := by
  obtain ⟨l, e, hp⟩ := tS_some hr
  rw [← (pText_is (h l e).1 hp).1]; exact e
theorem rdEnt_app {s : Option (List Nat)} {r : List Nat} (h : SOk s) (hr : (rdEnt s).2 = some r) : s = some (entB (rdEnt s).1 ++ r) := by
  have t2 := tS_app ((h.uS _).tS _) hr
  have t1 := tS_app (h.uS _) t2
  have t0 := uS_app h t1
  have e : entB (rdEnt s).1 = enc (uS 4611686018427387904 s).1 ++ (textB (tS 65536 (uS 4611686018427387904 s).2).1 ++ textB (tS 65536 (tS 65536 (uS 4611686018427387904 s).2).2).1) := by
    unfold entB rdEnt
    simp
  rw [e, List.append_assoc, List.append_assoc]
  exact t0
theorem rdN_app {s : Option (List Nat)} (h : SOk s) : ∀ (k : Nat) (r : List Nat), (rdN k s).2 = some r → s = some ((rdN k s).1.flatMap entB ++ r) := by
  intro k
  induction k with
  | zero => intro r hr; simpa [rdN] using hr
  | succ k ih =>
    intro r hr
    have h2 := rdEnt_app (SOk.rdN h k) (show (rdEnt (rdN k s).2).2 = some r from hr)
    have h3 := ih _ h2
    have e : (rdN (k + 1) s).1 = (rdN k s).1 ++ [(rdEnt (rdN k s).2).1] := rfl
    rw [e, List.flatMap_append, List.append_assoc]
    simpa using h3
theorem win_of (b : List Nat) (hb : By b) (h : okW b) : winB (wM b) (wF b) (wK b) = b := by
  have hsb : SOk (some b) := fun l hl => by injection hl with hl; rw [← hl]; exact hb
  have hs1 : SOk (wS1 b) := hsb.uS 64
  have hs2 : SOk (wS2 b) := hs1.fS
  have hs3 : SOk (wS3 b) := hs2.iS
  have hs4 : SOk (wS4 b) := hs3.uS _
  obtain ⟨a1, h5, h3, h4⟩ := h
  have e4 : wS4 b = some ((wK b).flatMap entB ++ []) := rdN_app hs4 (wC b) [] h5
  have e3 : wS3 b = some (enc (wC b) ++ ((wK b).flatMap entB ++ [])) := uS_app hs3 e4
  have e2 : wS2 b = some (enc (zig (wZ b)) ++ (enc (wC b) ++ ((wK b).flatMap entB ++ []))) := iS_app hs2 e3
  have e1 : wS1 b = some (flagB (wF b) ++ (enc (zig (wZ b)) ++ (enc (wC b) ++ ((wK b).flatMap entB ++ [])))) := fS_app e2
  have e0 : some b = some (enc (wM b) ++ (flagB (wF b) ++ (enc (zig (wZ b)) ++ (enc (wC b) ++ ((wK b).flatMap entB ++ []))))) := uS_app hsb e1
  injection e0 with e0
  have hkl : (wK b).length = wC b := rdN_len _ _
  unfold winB headB
  rw [hkl, ← h3]
  simp only [List.append_assoc, List.append_nil] at e0 ⊢
  exact e0.symm
set_option maxRecDepth 100000 in
set_option maxHeartbeats 8000000 in
theorem wreads_any (ao : Option Addr) (n c : Nat) (w : World) (h : ∃ l, Bytes w ao n c l) :
    Calls Try.prog 8 #[.slice ao n c] w fun e w' => e = .returned (.bool true) ∧ Only (fun _ => False) w w' := by
  obtain ⟨l, h⟩ := h
  have hm := h.2.2.1
  have h1 := h.2.1
  unfold maxLen at hm
  have hmin : min (n : Int) 1500 = ((min n 1500 : Nat) : Int) := by omega
  have hk1 : min n 1500 ≤ n := by omega
  have hk2 : min n 1500 ≤ 1500 := by omega
  have hkc : ((min n 1500 : Nat) : Int) ≤ c := by omega
  have HB : Hid (Bytes w ao (min n 1500) c (l.take (min n 1500))) := Lib.hid ⟨h.1.take _ hk1, by omega, h.2.2.1, h.2.2.2⟩
  have HBY : Hid (By (l.take (min n 1500))) := Lib.hid ⟨fun x hx => h.1.2.2.1 x (List.mem_of_mem_take hx), by rw [List.length_take]; omega⟩
  generalize l.take (min n 1500) = b at *
  generalize min n 1500 = k at *
  clear h h1
  have hk0 : (0 : Int) ≤ (k : Int) := by omega
  have HRD := Lib.hid (wread_any ao k c b w HB.out HBY.out)
  have HRR : Hid (∀ w', Calls Try.prog 40 #[.string (dskw.strN b)] w' fun e w'' => AnsD b e ∧ Only (fun _ => False) w' w'') := Lib.hid (fun w' => rread_any b w' HBY.out)
  go_enter Try.func8, Try.ntmps8
  go_wp2_with fail
  refine HRD.out.mono ?_
  rintro _ w1 ⟨ho, hres⟩
  have HB1 : Hid (Bytes w1 ao k c b) := Lib.hid (HB.out.only ho (fun _ _ f => f))
  have HO1 := Lib.hid ho
  have hcv : (convert 31 9 (.slice ao k c)).run Try.prog w1 = .ok (.string (dskw.strN b)) w1 := dskw.conv_reads HB1.out.1 c
  clear ho HRD HB
  rcases hres with ⟨hok, p, rfl, hws, hp⟩ | ⟨hno, rfl⟩
  · have HW : Hid (∀ w', Only (fun _ => False) w1 w' → Calls Try.prog 29 #[.pointer (some ⟨p, 0, none⟩)] w' (Wrote w' b)) := Lib.hid (fun w' ho => by
      obtain ⟨v, L, eL, hat⟩ := hws.quiet ho
      have := wwrite_any p (wM b) (wF b) v L w' hat
      rwa [eL, win_of b HBY.out hok] at this)
    have HOK := Lib.hid hok
    clear hws hok hp
    go_wp2_with fail
    refine (HRR.out w1).mono ?_
    rintro _ w2 ⟨⟨v, ok, rfl, hiff⟩, ho⟩
    obtain rfl : ok = true := hiff.2 HOK.out
    have HO2 := Lib.hid ho
    clear hiff ho hcv
    go_wp2_with fail
    refine (windows_any w2).mono ?_
    rintro _ w3 ⟨rfl, ho⟩
    have HO3 : Hid (Only (fun _ => False) w1 w3) := Lib.hid (HO2.out.trans ho)
    have HW3 := Lib.hid (HW.out w3 HO3.out)
    clear ho HW HO2
    go_wp2_with fail
    refine HW3.out.mono ?_
    rintro _ w4 ⟨ra, rc, rfl, hby, hyb, ho⟩
    generalize hnb : b.length = nb at *
    have HO4 : Hid (Only (fun _ => False) w w4) := Lib.hid ((HO1.out.trans HO3.out).trans ho)
    have hcv1 : (convert 31 9 (.slice ra nb rc)).run Try.prog w4 = .ok (.string (dskw.strN b)) w4 := dskw.conv_reads hby.1 rc
    have hcv2 : (convert 31 9 (.slice ao k c)).run Try.prog w4 = .ok (.string (dskw.strN b)) w4 := dskw.conv_reads (HB1.out.1.only (HO3.out.trans ho) (fun _ _ f => f)) c
    have hself : ((dskw.strN b).toList == (dskw.strN b).toList) = true := by simp
    clear ho hby hyb HW3 HO1 HO3 hnb HB1
    go_wp2_with fail
    go_ret
    exact ⟨by simp, HO4.out⟩
  · have HNO := Lib.hid hno
    clear hno
    go_wp2_with fail
    refine (HRR.out w1).mono ?_
    rintro _ w2 ⟨⟨v, ok, rfl, hiff⟩, ho⟩
    obtain rfl : ok = false := by
      cases ok
      · rfl
      · exact absurd (hiff.1 rfl) HNO.out
    have HO2 := Lib.hid ho
    clear hiff ho hcv
    go_wp2_with fail
    refine (windows_any w2).mono ?_
    rintro _ w3 ⟨rfl, ho⟩
    have HO3 : Hid (Only (fun _ => False) w w3) := Lib.hid ((HO1.out.trans HO2.out).trans ho)
    clear ho HO1 HO2
    go_wp2_with fail
    go_ret
    exact ⟨by simp, HO3.out⟩
theorem wreads_walk (ao : Option Addr) (n c : Nat) (w : World) (h : ∃ l, Bytes w ao n c l) :
    Calls Try.prog 8 #[.slice ao n c] w fun e w' => e = .returned (.bool true) ∧ Below w.heap.size w w' :=
  (wreads_any ao n c w h).mono fun _ _ ⟨p, q⟩ => ⟨p, q.none⟩
end Go.Proofs.Ytpjbgcbjelcnbaa.wnd
