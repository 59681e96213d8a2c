/- Entries: the same; Opposite of any. -/
import Derived.Test.YtdjiljkdnpmilaaEntL
namespace Go.Proofs.Ytdjiljkdnpmilaa.entw
open Go.RowKit mem entm
set_option linter.unusedVariables false

set_option maxHeartbeats 1000000 in
theorem opp_nil (kind : Int) (w : World) :
    Calls Try.prog 11 #[.agg #[.int .i64 kind, .slice none 0 0]] w fun e w' => e = .returned (.agg #[.int .i64 kind, .slice none 0 0]) ∧ Only (fun _ => False) w w' := by
  have HCL := Lib.hid (fun w' => AnyE.slices_Clone_nil Try.cloneLegs 0 0 w')
  have hq : ∀ q, Only (fun _ => False) w q → True := fun _ _ => trivial
  go_enter Try.func11, Try.ntmps11
  go_wp2_with fail
  have hq0 : ((w.alloc (Obj.cells #[Value.int IntKind.i64 kind, Value.slice none 0 0] 25)).alloc (Obj.cells #[Value.int IntKind.i64 0, Value.slice none 0 0] 25)).cell? ⟨w.heap.size, 0, none⟩ = some (.int .i64 kind) := ((Only.refl (fun _ => False) _).alloc _).cell' (alloc_new _ _ _ _ _ _ rfl rfl) (fun f => f)
  have hq1 : ((w.alloc (Obj.cells #[Value.int IntKind.i64 kind, Value.slice none 0 0] 25)).alloc (Obj.cells #[Value.int IntKind.i64 0, Value.slice none 0 0] 25)).cell? ⟨w.heap.size, 1, none⟩ = some (.slice none 0 0) := ((Only.refl (fun _ => False) _).alloc _).cell' (alloc_new _ _ _ _ _ _ rfl rfl) (fun f => f)
  have HT := Lib.hid (TwoTwo.start w (.int .i64 kind) (.slice none 0 0) (.int .i64 0) (.slice none 0 0) 25 25)
  have hsz : ((w.alloc (Obj.cells #[Value.int IntKind.i64 kind, Value.slice none 0 0] 25)).alloc (Obj.cells #[Value.int IntKind.i64 0, Value.slice none 0 0] 25)).heap.size = w.heap.size + 2 := by simp
  generalize (w.alloc (Obj.cells #[Value.int IntKind.i64 kind, Value.slice none 0 0] 25)).alloc (Obj.cells #[Value.int IntKind.i64 0, Value.slice none 0 0] 25) = w0 at *
  have HKP : Hid (∀ w', Only (fun k => k = w0.heap.size) w0 w' → w'.cell? ⟨w.heap.size, 0, none⟩ = some (.int .i64 kind) ∧ w'.cell? ⟨w.heap.size, 1, none⟩ = some (.slice none 0 0)) := Lib.hid (fun w' ho =>
    ⟨ho.cell' hq0 (show ¬ w.heap.size = _ by omega), ho.cell' hq1 (show ¬ w.heap.size = _ by omega)⟩)
  clear hq
  go_region_held3 (fun w' => w'.cell? ⟨w.heap.size, 0, none⟩ = some (.int .i64 kind) ∧ w'.cell? ⟨w.heap.size, 1, none⟩ = some (.slice none 0 0))
    ((refine HKP.out _ ?_; repeat (first | exact Only.refl _ _ | refine Only.drew ?_ | refine Only.alloc ?_ _ | refine Only.setCell ?_ (by left; rfl) _)))
    ((go_at_call 33; refine (HCL.out _).mono ?_; rintro _ _ ⟨rfl, rfl⟩))
  all_goals
    have HT2 := Lib.hid (HT.out.next (S := fun _ => False) (((Only.refl _ _).alloc (.cells #[.int .i64 kind, .slice none 0 0] 25)).drew) (fun _ f => f.elim))
    have l0 : (w0.alloc (.cells #[.int .i64 kind, .slice none 0 0] 25)).drew.cell? ⟨w.heap.size + 2, 0, none⟩ = some (.int .i64 kind) := drew_new _ _ _ _ _ _ (by omega) rfl
    have l1 : (w0.alloc (.cells #[.int .i64 kind, .slice none 0 0] 25)).drew.cell? ⟨w.heap.size + 2, 1, none⟩ = some (.slice none 0 0) := drew_new _ _ _ _ _ _ (by omega) rfl
    generalize (w0.alloc (.cells #[.int .i64 kind, .slice none 0 0] 25)).drew = wf at *
    have HL0 := Lib.hid (And.intro l0 l1)
    clear hq0 hq1 hsz HT HKP HCL l0
    go_wp2_with fail
    clear l1
    go_loopw [14] (fun i wr => i = .int .i64 0 ∧ Hid (wr = wf)) (fun _ _ => 0)
    case atStart => exact ⟨rfl, Lib.hid rfl⟩
    case round =>
      obtain ⟨rfl, HW⟩ := hrel
      obtain rfl := HW.out
      have l0 := HL0.out.1
      have l1 := HL0.out.2
      obtain ⟨u0, r0⟩ := HT2.out.r0
      obtain ⟨u1, r1⟩ := HT2.out.r1
      have g0 := HT2.out.g0
      have g1 := HT2.out.g1
      have HE := Lib.hid (set_two (x := .int .i64 kind) (y := .slice none 0 0) r0 r1)
      have HS : Hid (Only (fun q => q = w.heap.size + 1) wr ((wr.setCell ⟨w.heap.size + 1, 0, none⟩ (.int .i64 kind)).setCell ⟨w.heap.size + 1, 1, none⟩ (.slice none 0 0))) := Lib.hid (((Only.refl (fun q => q = w.heap.size + 1) wr).setCell (p := ⟨w.heap.size + 1, 0, none⟩) (.inl rfl) _).setCell (p := ⟨w.heap.size + 1, 1, none⟩) (.inl rfl) _)
      go_wp2_with fail
      refine bodyPost_ret (v := .agg #[.int .i64 kind, .slice none 0 0]) (by simp [results, Try.results11, go_sem, HE.out.1, HE.out.2]) rfl ⟨rfl, HT2.out.only.then HS.out (fun q hq e => by omega)⟩

/-- Opposite, of legs or of none -/
theorem opp_any (kind : Int) (a : Option Addr) (cap : Nat) (ls : List Lg) (w : World) (h : ReadsL w a ls.length ls) (hm : ls.length ≤ 1000) (hn : ls = [] → a = none ∧ cap = 0) :
    Calls Try.prog 11 #[.agg #[.int .i64 kind, .slice a ls.length cap]] w (LegsMade kind (opp ls) w) := by
  by_cases h0 : ls = []
  · obtain ⟨rfl, rfl⟩ := hn h0
    subst h0
    refine (opp_nil kind w).mono ?_
    rintro e w' ⟨rfl, ho⟩
    exact ⟨none, 0, rfl, ReadsL.nil _ _, Nat.le_refl _, fun _ => ⟨rfl, rfl⟩, ho⟩
  · have hp : 1 ≤ ls.length := by
      rcases Nat.eq_zero_or_pos ls.length with e | e
      · exact absurd (List.eq_nil_of_length_eq_zero e) h0
      · exact e
    obtain ⟨b, off, rfl, _⟩ := h.2.2.2.resolve_left (by omega)
    have hin : ∀ l ∈ ls, InL l := h.2.2.1
    refine (opp_some kind b off ls.length cap ls w h hm hp).mono ?_
    rintro e w' ⟨g, cp, rfl, hown, hg, ho⟩
    obtain ⟨g', cp', hv, _, _, hc, _⟩ := owns_form hown (by rw [opp_len]; exact hp)
    injection hv with e1 e2 e3
    injection e1 with e1
    injection e1 with e1
    subst e1 e3
    refine ⟨some ⟨g, 0, none⟩, cp, by rw [opp_len], ?_, hc, fun e => absurd (List.map_eq_nil_iff.1 e) h0, ho⟩
    rw [opp_len]
    exact hown.reads (opp_len ls).symm (by rw [opp_len]; omega) (opp_in hin)

theorem opp_opp (ls : List Lg) (h : ∀ l ∈ ls, InL l) : opp (opp ls) = ls := by
  unfold opp
  rw [List.map_map]
  refine (List.map_congr_left ?_).trans (List.map_id ls)
  intro l hl
  obtain ⟨_, _, _, ha⟩ := h l hl
  unfold InI at ha
  show ({ l with a := negI (negI l.a) } : Lg) = l
  have : negI (negI l.a) = l.a := by
    unfold negI
    by_cases e : l.a = -9223372036854775808
    · rw [if_pos e, if_pos e]
    · rw [if_neg e, if_neg (by omega)]; omega
  rw [this]

set_option maxHeartbeats 2000000 in
theorem same_yes (kind : Int) (a a' : Option Addr) (len cap cap' : Nat) (ls : List Lg) (w : World) (h : ReadsL w a len ls) (h' : ReadsL w a' len ls) :
    Calls Try.prog 9 #[.agg #[.int .i64 kind, .slice a len cap], .agg #[.int .i64 kind, .slice a' len cap']] w fun e w' => e = .returned (.bool true) ∧ Only (fun _ => False) w w' := by
  have H := Lib.hid h
  have H' := Lib.hid h'
  have hm := h.2.1
  have HW0 : Hid (∀ w0, w0 = (w.alloc (.cells #[.int .i64 kind, .slice a len cap] 33)).alloc (.cells #[.int .i64 kind, .slice a' len cap'] 33) →
      w0.cell? ⟨w.heap.size, 1, none⟩ = some (.slice a len cap) ∧ w0.cell? ⟨w.heap.size + 1, 1, none⟩ = some (.slice a' len cap') ∧ Only (fun _ => False) w w0) := Lib.hid (fun w0 e => by
    subst e
    exact ⟨((Only.refl (fun _ => False) _).alloc _).cell' (alloc_new _ _ _ _ _ _ rfl rfl) (fun f => f), alloc_new _ _ _ _ _ _ (by simp) rfl, ((Only.refl _ w).alloc _).alloc _⟩)
  clear h h'
  go_enter Try.func9, Try.ntmps9
  go_wp2_with fail
  obtain ⟨w0, hw0⟩ : ∃ w0, w0 = (w.alloc (.cells #[.int .i64 kind, .slice a len cap] 33)).alloc (.cells #[.int .i64 kind, .slice a' len cap'] 33) := ⟨_, rfl⟩
  have HF := Lib.hid (HW0.out w0 hw0)
  rw [← hw0]
  clear hw0 HW0
  go_loopw [5] (fun i wr => ∃ k : Nat, k ≤ len ∧ i = .int .i64 k ∧ Hid (Only (fun _ => False) w0 wr)) (fun i _ => len - (intOf i).toNat)
  case atStart => exact ⟨0, by omega, rfl, Lib.hid (Only.refl _ _)⟩
  case round =>
    obtain ⟨k, hk, rfl, HO⟩ := hrel
    have b1 := HO.out.cell' HF.out.1 (fun f => f)
    have b2 := HO.out.cell' HF.out.2.1 (fun f => f)
    have HOw := Lib.hid (HF.out.2.2.trans HO.out)
    by_cases h8 : k < len
    · obtain ⟨b, off, rfl, hcell⟩ := H.out.2.2.2.resolve_left (by omega)
      obtain ⟨b', off', rfl, hcell'⟩ := H'.out.2.2.2.resolve_left (by omega)
      obtain ⟨p0, p1, p2, p3⟩ := hcell k h8
      obtain ⟨q0, q1, q2, q3⟩ := hcell' k h8
      have c0 := HOw.out.cell' p0 (fun f => f)
      have c1 := HOw.out.cell' p1 (fun f => f)
      have c2 := HOw.out.cell' p2 (fun f => f)
      have c3 := HOw.out.cell' p3 (fun f => f)
      have d0 := HOw.out.cell' q0 (fun f => f)
      have d1 := HOw.out.cell' q1 (fun f => f)
      have d2 := HOw.out.cell' q2 (fun f => f)
      have d3 := HOw.out.cell' q3 (fun f => f)
      have hk0 : (0 : Int) ≤ (k : Int) := by omega
      have hkn : (k : Int) < (len : Int) := by omega
      have HD : Hid (∀ n, Only (fun _ => False) w0 (wr.drewN n)) := Lib.hid (fun n => only_drewN HO.out n)
      clear hcell hcell' p0 p1 p2 p3 q0 q1 q2 q3
      generalize ls.getD k default = l at *
      obtain ⟨lk, ln, lg, la⟩ := l
      dsimp only at c0 c1 c2 c3 d0 d1 d2 d3
      go_wp2_with fail
      go_quiet (fail)
      go_wp2_with fail
      exact ⟨⟨k + 1, by omega, by go_num, Lib.hid (HD.out _)⟩, by simp [intOf]; omega⟩
    · obtain rfl : k = len := by omega
      go_wp2_with fail
      go_ret
      exact ⟨rfl, HOw.out⟩
end Go.Proofs.Ytdjiljkdnpmilaa.entw
