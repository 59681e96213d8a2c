/- Where the slots aren't there: read, Load, Gens, Save. -/
import Derived.Test.YtcbpgplmphgcgaaSnN
namespace Go.Proofs.Ytcbpgplmphgcgaa.snw
open Go.RowKit mem snm crcm dskw
set_option linter.unusedVariables false

def NoW (dv : Value) (first size : Int) (w : World) : Prop := ∀ w', Only (fun _ => False) w w' → Calls Try.prog 62 #[dv, .int .i64 first, .int .i64 size] w' fun e w'' => e = .returned (.bool false) ∧ w' = w''
theorem NoW.only {dv : Value} {first size : Int} {w w' : World} (h : NoW dv first size w) (ho : Only (fun _ => False) w w') : NoW dv first size w' := fun w'' h2 => h w'' (ho.trans h2)
theorem noW_nil (first size : Int) (w : World) : NoW (.pointer none) first size w := by
  intro w' _
  go_enter Try.func62, Try.ntmps62
  go_wp2
  go_ret
  exact ⟨rfl, rfl⟩
theorem noW_at {p bl bm n : Nat} {L : Nat → List Nat} {C : Nat → Option (List Nat)} {cut : Int} {off : Bool} {first size : Int} {w : World} (h : DskAt w p bl bm n L C cut off) (hf : -9223372036854775808 ≤ first ∧ first ≤ 9223372036854775807) (hn : ¬ WIn n first size) : NoW (.pointer (some ⟨p, 0, none⟩)) first size w := by
  intro w' ho
  have := within_any p bl bm n L C cut off first size w' (h.only ho (fun f => f) (fun f => f) (fun f => f)) hf
  rwa [decide_eq_false hn] at this
set_option maxRecDepth 100000 in
set_option maxHeartbeats 4000000 in
theorem sread_no (dv : Value) (first size : Int) (w : World) (H : NoW dv first size w) : Calls Try.prog 66 #[dv, .int .i64 first, .int .i64 size] w fun e w' => e = .returned (.tuple #[.agg #[.int .i64 0, .slice none 0 0, .int .i64 0, .slice none 0 0], .int .i64 1]) ∧ Only (fun _ => False) w w' := by
  obtain ⟨w1, hw1⟩ : ∃ x, x = w.alloc (.cells #[.int .i64 0, .slice none 0 0, .int .i64 0, .slice none 0 0] 120) := ⟨_, rfl⟩
  obtain ⟨g, hg⟩ : ∃ x, x = w.heap.size := ⟨_, rfl⟩
  obtain ⟨hb, hal⟩ := bx4_new hw1 hg
  have HW := Lib.hid (H w1 hal)
  clear H
  go_enter Try.func66, Try.ntmps66
  go_upto_region 1 with fail
  simp only [← hw1, ← hg]
  have HG : Hid (w.heap.size ≤ g) := Lib.hid (by omega)
  clear hw1 hg
  go_wp2_with fail
  refine HW.out.mono ?_
  rintro _ _ ⟨rfl, rfl⟩
  obtain ⟨hb2, ho2⟩ := put4_facts (x0 := .int .i64 0) (x1 := .slice none 0 0) (x2 := .int .i64 0) (x3 := .slice none 0 0) hb
  have HO2 : Hid (Only (fun _ => False) w (put4 w1 g (.int .i64 0) (.slice none 0 0) (.int .i64 0) (.slice none 0 0))) := Lib.hid (hal.then ho2 (fun q hq e => by have := HG.out; have e : q = g := e; omega))
  obtain ⟨b0, b1, b2, b3, bf⟩ := hb
  obtain ⟨y0, y1, y2, y3, -⟩ := hb2
  unfold put4 at y0 y1 y2 y3 HO2
  clear hal HW ho2
  go_wp2_with fail
  refine bodyPost_ret (v := .tuple #[.agg #[.int .i64 0, .slice none 0 0, .int .i64 0, .slice none 0 0], .int .i64 1]) (by simp [results, Try.results66, go_sem, y0, y1, y2, y3]) rfl ?_
  exact ⟨rfl, HO2.out⟩
set_option maxRecDepth 100000 in
set_option maxHeartbeats 4000000 in
theorem load_no (dv : Value) (first size : Int) (w : World) (H : NoW dv first size w) : Calls Try.prog 37 #[dv, .int .i64 first, .int .i64 size] w fun e w' => e = .returned (.tuple #[.int .i64 0, .slice none 0 0, .int .i64 1]) ∧ Only (fun _ => False) w w' := by
  have HR := Lib.hid (sread_no dv first size w H)
  clear H
  go_enter Try.func37, Try.ntmps37
  go_wp2_with fail
  refine HR.out.mono ?_
  rintro _ w1 ⟨rfl, ho⟩
  have HO := Lib.hid (ho.alloc (.cells #[.int .i64 0, .slice none 0 0, .int .i64 0, .slice none 0 0] 120))
  clear ho HR
  go_wp2_with fail
  refine bodyPost_ret (v := .tuple #[.int .i64 0, .slice none 0 0, .int .i64 1]) (by simp [results, Try.results37, go_sem]) rfl ?_
  exact ⟨rfl, HO.out⟩
set_option maxRecDepth 100000 in
set_option maxHeartbeats 4000000 in
theorem gens_no (dv : Value) (first size : Int) (w : World) (H : NoW dv first size w) : Calls Try.prog 38 #[dv, .int .i64 first, .int .i64 size] w fun e w' => e = .returned (.tuple #[.agg #[.int .i64 0, .int .i64 0], .agg #[.bool false, .bool false], .int .i64 1]) ∧ Only (fun _ => False) w w' := by
  obtain ⟨wa, hwa⟩ : ∃ x, x = w.alloc (.cells #[.int .i64 0, .int .i64 0] 70) := ⟨_, rfl⟩
  obtain ⟨g6, hg6⟩ : ∃ x, x = w.heap.size := ⟨_, rfl⟩
  obtain ⟨wb, hwb⟩ : ∃ x, x = wa.alloc (.cells #[.bool false, .bool false] 71) := ⟨_, rfl⟩
  obtain ⟨a0, a1, af, hala⟩ := slbox hwa hg6
  have hg7 : g6 + 1 = wa.heap.size := by rw [hwa, size_alloc, hg6]
  obtain ⟨b0, b1, bf, halb⟩ := slbox hwb hg7
  have hlt6 : g6 < wa.heap.size := World.block_lt_of_cell? wa _ a0
  have hlt7 : g6 + 1 < wb.heap.size := World.block_lt_of_cell? wb _ b0
  have HAB := Lib.hid (And.intro (halb.cell' a0 (fun f => f)) (And.intro (halb.cell' a1 (fun f => f)) (And.intro b0 (And.intro b1 (And.intro (fun j => (halb.frozen (p := ⟨g6, j, none⟩) hlt6 (fun f => f)).trans (af j)) bf)))))
  have HO1 := Lib.hid (hala.trans halb)
  have HGW : Hid (w.heap.size ≤ g6 ∧ g6 < wb.heap.size ∧ g6 + 1 < wb.heap.size) := Lib.hid ⟨by omega, by omega, hlt7⟩
  have HR := Lib.hid (sread_no dv first size wb (H.only (hala.trans halb)))
  clear H a0 a1 af b0 b1 bf hala halb hg7 hlt6 hlt7
  go_enter Try.func38, Try.ntmps38
  go_upto_region 1 with fail
  simp only [← hwa, ← hg6, ← hwb]
  clear hwa hg6 hwb
  go_wp2_with fail
  refine HR.out.mono ?_
  rintro _ w1 ⟨rfl, ho⟩
  have ho2 := ho.alloc (.cells #[.int .i64 0, .slice none 0 0, .int .i64 0, .slice none 0 0] 120)
  obtain ⟨w2, hw2⟩ : ∃ x, x = w1.alloc (.cells #[.int .i64 0, .slice none 0 0, .int .i64 0, .slice none 0 0] 120) := ⟨_, rfl⟩
  rw [← hw2] at ho2
  obtain ⟨h0, h1, h2, h3, f6, f7⟩ := HAB.out
  have a0 := ho2.cell' h0 (fun f => f)
  have a1 := ho2.cell' h1 (fun f => f)
  have b0 := ho2.cell' h2 (fun f => f)
  have b1 := ho2.cell' h3 (fun f => f)
  have af := fun j => (ho2.frozen (p := ⟨g6, j, none⟩) HGW.out.2.1 (fun f => f)).trans (f6 j)
  have bf := fun j => (ho2.frozen (p := ⟨g6 + 1, j, none⟩) HGW.out.2.2 (fun f => f)).trans (f7 j)
  obtain ⟨y0, y1, hoc⟩ := put2_facts (x0 := .int .i64 0) (x1 := .int .i64 0) a0 a1
  obtain ⟨wc, hwc⟩ : ∃ x, x = put2 w2 g6 (.int .i64 0) (.int .i64 0) := ⟨_, rfl⟩
  rw [← hwc] at y0 y1 hoc
  have d0 := hoc.cell' b0 (fun e => by have e : g6 + 1 = g6 := e; omega)
  have d1 := hoc.cell' b1 (fun e => by have e : g6 + 1 = g6 := e; omega)
  have df := fun j => (hoc.frozen (p := ⟨g6 + 1, j, none⟩) (Nat.lt_of_lt_of_le HGW.out.2.2 ho2.size) (fun e => by have e : g6 + 1 = g6 := e; omega)).trans (bf j)
  obtain ⟨z0, z1, hod⟩ := put2_facts (x0 := .bool false) (x1 := .bool false) d0 d1
  obtain ⟨wd, hwd⟩ : ∃ x, x = put2 wc (g6 + 1) (.bool false) (.bool false) := ⟨_, rfl⟩
  rw [← hwd] at z0 z1 hod
  have u0 := hod.cell' y0 (fun e => by have e : g6 = g6 + 1 := e; omega)
  have u1 := hod.cell' y1 (fun e => by have e : g6 = g6 + 1 := e; omega)
  have HOF : Hid (Only (fun _ => False) w wd) := Lib.hid (((HO1.out.trans ho2).then hoc (fun q hq e => by have := HGW.out; have e : q = g6 := e; omega)).then hod (fun q hq e => by have := HGW.out; have e : q = g6 + 1 := e; omega))
  unfold put2 at hwc hwd
  clear ho ho2 hoc hod h0 h1 h2 h3 f6 f7 HAB HR HO1
  go_upto_region 2 with fail
  simp only [← hw2]
  clear hw2
  go_wp2_with fail
  simp only [← hwc, ← hwd]
  refine bodyPost_ret (v := .tuple #[.agg #[.int .i64 0, .int .i64 0], .agg #[.bool false, .bool false], .int .i64 1]) (by simp [results, Try.results38, go_sem, u0, u1, z0, z1]) rfl ?_
  exact ⟨rfl, HOF.out⟩
set_option maxRecDepth 100000 in
set_option maxHeartbeats 4000000 in
theorem save_no (dv : Value) (first size gen : Int) (a : Option Addr) (len cap : Nat) (w : World) (b : Bool) (H : Calls Try.prog 62 #[dv, .int .i64 first, .int .i64 size] w fun e w' => e = .returned (.bool b) ∧ w = w') (hb : b = false ∨ gen < 1) :
    Calls Try.prog 36 #[dv, .int .i64 first, .int .i64 size, .int .i64 gen, .slice a len cap] w fun e w' => e = .returned (.int .i64 1) ∧ w = w' := by
  have HH := Lib.hid H
  clear H
  rcases b with _ | _
  · clear hb
    go_enter Try.func36, Try.ntmps36
    go_wp2_with fail
    refine HH.out.mono ?_
    rintro _ _ ⟨rfl, rfl⟩
    clear HH
    go_wp2_with fail
    go_ret
    exact ⟨rfl, rfl⟩
  · have hg : gen < 1 := by rcases hb with h | h; cases h; exact h
    clear hb
    go_enter Try.func36, Try.ntmps36
    go_wp2_with fail
    refine HH.out.mono ?_
    rintro _ _ ⟨rfl, rfl⟩
    clear HH
    go_wp2_with fail
    go_ret
    exact ⟨rfl, rfl⟩
set_option maxRecDepth 100000 in
set_option maxHeartbeats 4000000 in
theorem save_big (dv : Value) (first size gen : Int) (a : Option Addr) (len cap : Nat) (w : World) (H : Calls Try.prog 62 #[dv, .int .i64 first, .int .i64 size] w fun e w' => e = .returned (.bool true) ∧ w = w') (hg : ¬ gen < 1) (hr : roomL size < len) :
    Calls Try.prog 36 #[dv, .int .i64 first, .int .i64 size, .int .i64 gen, .slice a len cap] w fun e w' => e = .returned (.int .i64 5) ∧ w = w' := by
  have HH := Lib.hid H
  have HR := Lib.hid (room_any size w)
  generalize roomL size = R at *
  clear H
  go_enter Try.func36, Try.ntmps36
  go_wp2_with fail
  refine HH.out.mono ?_
  rintro _ _ ⟨rfl, rfl⟩
  clear HH
  go_wp2_with fail
  refine HR.out.mono ?_
  rintro _ _ ⟨rfl, rfl⟩
  clear HR
  go_wp2_with fail
  go_ret
  exact ⟨rfl, rfl⟩
end Go.Proofs.Ytcbpgplmphgcgaa.snw
