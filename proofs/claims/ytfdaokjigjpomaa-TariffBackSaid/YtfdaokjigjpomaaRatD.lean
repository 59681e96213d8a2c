/- Plans: a copy of a tariff; is it the other one at a time? -/
import Derived.Test.YtfdaokjigjpomaaRatC
import Derived.Lib.SliceRun
namespace Go.Proofs.Ytfdaokjigjpomaa.tirw
open Go.RowKit mem tirm intm bigw
set_option linter.unusedVariables false

set_option maxRecDepth 100000 in
theorem clone_tier (b off n cap : Nat) (ts : List Tr) (w : World) (h : ReadsT w (some ⟨b, off, none⟩) n ts) (hn : n ≤ 100) (h1 : 1 ≤ n) :
    Calls Try.prog 47 #[.slice (some ⟨b, off, none⟩) n cap] w fun e w' => ∃ g cp, e = .returned (.slice (some ⟨g, 0, none⟩) n cp) ∧ ReadsT w' (some ⟨g, 0, none⟩) n ts ∧ w.heap.size ≤ g ∧ Only (fun _ => False) w w' := by
  obtain ⟨i0, hi, hz0, hz1, hz2⟩ := info_parts info_tier
  have HIN : Hid (∀ x ∈ ts, InI x.u ∧ InI x.p) := Lib.hid h.2.2.1
  have HN : Hid (ts.length = n) := Lib.hid h.1
  have HP : Hid ((w.alloc (.cells #[] 74)).ownsRow w.heap.size 74 2 (.slice (some ⟨w.heap.size, 0, none⟩) 0 0) 0 (tv [])) := Lib.hid (World.ownsRow_lit (base := w.heap.size) (e := 74) (size := 2) w #[] 0 (Nat.le_refl _) (by decide) rfl)
  have HRW := Lib.hid (h.only (S := fun _ => False) ((Only.refl _ w).alloc (.cells #[] 74)) (fun _ _ f => f))
  have hq : ∀ w : World, (binOp .eql 22 (.slice (some ⟨b, off, none⟩) n cap) (.slice none 0 0)).run Try.prog w = .ok (.bool false) w := fun w => Lib.run_eql_slice_nil w _ _ (some ⟨b, off, none⟩) n cap 0 0 Try.underlying22
  clear h
  go_enter Try.func47, Try.ntmps47
  go_wp2_with (at_builtin; refine wpList_append_own _ rfl _ _ 22 rfl w.heap.size 74 i0 _ 2 16 Try.underlying22 hi hz0 hz1 hz2 rfl (by decide) _ 0 _ rfl HP.out ⟨b, off, none⟩ n cap (tv ts) rfl ?c1 ?c2 ?c3 ?c4 ?c5 ?c6 ?_)
  case c1 => rw [tv_length, HN.out]
  case c2 => exact newsT HRW.out
  case c3 => exact tv_one ts
  case c4 => unfold maxLen; omega
  case c5 => omega
  case c6 => simp
  intro v2 w2 hown hgrow hne
  obtain ⟨g, cp, rfl, hg, hcp, hcx⟩ := form_own2 hown (fun e => hne e)
  have HF : Hid (ReadsT w2 (some ⟨g, 0, none⟩) n ts ∧ w.heap.size ≤ g ∧ Only (fun _ => False) w w2) := Lib.hid ⟨own_readsT hown (by omega) HIN.out, hg, ((Only.refl _ w).alloc _).then (Only.of_grown hgrow) (fun q hq e => by
    have : w.heap.size = q := by simpa [Value.ownBlock] using e
    omega)⟩
  clear hown hgrow hne
  go_wp2_with fail
  go_ret
  exact ⟨g, cp, by simp, HF.out.1, HF.out.2.1, HF.out.2.2⟩

/-- a copy of a tariff -/
def CopyAt (G M B : Int) (n : Nat) (ts : List Tr) (w : World) (e : Ending) (w' : World) : Prop :=
  ∃ g cp, e = .returned (.agg #[.int .i64 G, .int .i64 M, .int .i64 B, .slice (some ⟨g, 0, none⟩) n cp]) ∧ ReadsT w' (some ⟨g, 0, none⟩) n ts ∧ w.heap.size ≤ g ∧ Only (fun _ => False) w w'
set_option maxRecDepth 100000 in
set_option maxHeartbeats 1000000 in
theorem copy_any (G M B : Int) (b off n cap : Nat) (ts : List Tr) (w : World) (h : ReadsT w (some ⟨b, off, none⟩) n ts) (hn : n ≤ 100) (h1 : 1 ≤ n) :
    Calls Try.prog 40 #[.agg #[.int .i64 G, .int .i64 M, .int .i64 B, .slice (some ⟨b, off, none⟩) n cap]] w (CopyAt G M B n ts w) := by
  obtain ⟨W0, hW0⟩ : ∃ W0, W0 = (w.alloc (.cells #[.int .i64 G, .int .i64 M, .int .i64 B, .slice (some ⟨b, off, none⟩) n cap] 24)).alloc (.cells #[.int .i64 0, .int .i64 0, .int .i64 0, .slice none 0 0] 24) := ⟨_, rfl⟩
  have HO0 : Hid (Only (fun _ => False) w W0) := Lib.hid (by rw [hW0]; exact ((Only.refl _ w).alloc _).alloc _)
  have ho1 : Only (fun _ => False) (w.alloc (.cells #[.int .i64 G, .int .i64 M, .int .i64 B, .slice (some ⟨b, off, none⟩) n cap] 24)) W0 := by rw [hW0]; exact (Only.refl _ _).alloc _
  have HTB : Hid (TarAt W0 w.heap.size G M B (.slice (some ⟨b, off, none⟩) n cap)) := Lib.hid (TarAt.only ⟨alloc_new _ _ _ _ _ _ rfl rfl, alloc_new _ _ _ _ _ _ rfl rfl, alloc_new _ _ _ _ _ _ rfl rfl, alloc_new _ _ _ _ _ _ rfl rfl⟩ ho1 (fun f => f))
  have HFT : Hid (Four W0 w.heap.size) := Lib.hid ((Four.new rfl).only ho1 (fun f => f))
  have HFR : Hid (Four W0 (w.heap.size + 1) ∧ W0.heap.size = w.heap.size + 2) := Lib.hid (by rw [hW0]; exact ⟨Four.new (by simp), by simp⟩)
  have HCL := Lib.hid (clone_tier b off n cap ts W0 (h.only HO0.out (fun _ _ f => f)) hn h1)
  clear ho1 h
  obtain ⟨a0, a1, a2, a3⟩ := HTB.out
  rw [hW0] at a0 a1 a2 a3
  go_enter Try.func40, Try.ntmps40
  go_wp2_with fail
  rw [← hW0]
  clear hW0 a0 a1 a2 a3
  refine HCL.out.mono ?_
  rintro _ w2 ⟨g, cp, rfl, hrd, hg, ho2⟩
  have HRD := Lib.hid hrd
  have HO2 := Lib.hid ho2
  have HG := Lib.hid hg
  obtain ⟨c0, c1, c2, c3⟩ := HTB.out.only ho2 (fun f => f)
  obtain ⟨_, _, _, _, _, _, _, f3⟩ := HFT.out.only ho2 (fun f => f)
  have HST : Hid (Only (fun q => q = w.heap.size) w2 (w2.setCell ⟨w.heap.size, 3, none⟩ (.slice (some ⟨g, 0, none⟩) n cp))) := Lib.hid (Only.set (fun q => q = w.heap.size) w2 w.heap.size 3 _ rfl)
  have HR4 := (HFR.out.1.only ho2 (fun f => f)).only HST.out (fun e => by have e' : w.heap.size + 1 = w.heap.size := e; omega)
  have HE := Lib.hid (HR4.set (.int .i64 G) (.int .i64 M) (.int .i64 B) (.slice (some ⟨g, 0, none⟩) n cp))
  obtain ⟨⟨_, r0⟩, ⟨_, r1⟩, ⟨_, r2⟩, ⟨_, r3⟩, g0, g1, g2, g3⟩ := HR4
  have e0 : (w2.setCell ⟨w.heap.size, 3, none⟩ (.slice (some ⟨g, 0, none⟩) n cp)).cell? ⟨w.heap.size, 3, none⟩ = some (.slice (some ⟨g, 0, none⟩) n cp) := cell_same c3
  clear hrd ho2 hg
  go_wp2_with fail
  refine bodyPost_ret (v := .agg #[.int .i64 G, .int .i64 M, .int .i64 B, .slice (some ⟨g, 0, none⟩) n cp]) (by simp [results, Try.results40, go_sem, HE.out.1, HE.out.2.1, HE.out.2.2.1, HE.out.2.2.2.1]) rfl ⟨g, cp, rfl, ?_, (by have := HG.out; have := HO0.out.size; omega), ?_⟩
  · have hgg := HG.out
    have hs := HFR.out.2
    exact (HRD.out.only HST.out (fun y hy e => by injection hy with hy; subst hy; have e' : g = w.heap.size := e; omega)).only HE.out.2.2.2.2 (fun y hy e => by injection hy with hy; subst hy; have e' : g = w.heap.size + 1 := e; omega)
  · exact (((HO0.out.trans HO2.out).then HST.out (fun q hq e => by have e' : q = w.heap.size := e; omega)).then HE.out.2.2.2.2 (fun q hq e => by have e' : q = w.heap.size + 1 := e; omega))

/-- is it the other one at a time? -/
def isO (D F T now : Int) : Bool := if D = 0 then false else if F < T then decide (F ≤ now % D) && decide (now % D < T) else decide (F ≤ now % D) || decide (now % D < T)
end Go.Proofs.Ytfdaokjigjpomaa.tirw
